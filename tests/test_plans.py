"""Points 2 and 12 to 15: plans and their weavings."""

import itertools
import types
import unittest

from untoldrule.errors import (
    InvalidPlaces,
    InvalidPlan,
    InvalidWeaving,
    NoWeaving,
    TooManySteps,
    UnknownProgram,
)
from untoldrule.plans import Plan, Weave
from untoldrule.programs import Program
from untoldrule.systems import System

# The programs none, one, two, three and four cannot all be in one system, so there are two systems.
LINES = ["read x as a", "write x by f of a", "read x as b write x by f of b", "write x by f of b"]


def program(name, many):
    return Program.read("\n".join([f"program {name}", *LINES[:many]]))


LOW = System(["x"], [program("none", 0), program("one", 1), program("two", 2), program("three", 3)])
HIGH = System(["x"], [program("two", 2), program("four", 4), program("none", 0)])


def plan_of(*lanes):
    plan = Plan.empty()
    for names in lanes:
        plan = plan | Plan.of(*names)
    return plan


# Plans with the numbers of steps of their programs, lane by lane.
PLANS = [
    (LOW, (), ()),
    (LOW, ((),), ((),)),
    (LOW, ((), (), ()), ((), (), ())),
    (LOW, (("none",),), ((0,),)),
    (LOW, (("none", "none"), ("one",)), ((0, 0), (1,))),
    (LOW, (("one",), (), ("two",)), ((1,), (), (2,))),
    (LOW, (("two",), ("two",)), ((2,), (2,))),
    (LOW, (("three",),), ((3,),)),
    (LOW, (("two", "two"), ("one",)), ((2, 2), (1,))),
    (LOW, (("two", "none", "two"), ("three",)), ((2, 0, 2), (3,))),
    (LOW, (("one", "one", "one", "one"), ("two",)), ((1, 1, 1, 1), (2,))),
    (LOW, (("one", "two"), ("two",), ("two",)), ((1, 2), (2,), (2,))),
    (LOW, (("three",), ("one", "two"), ("two",)), ((3,), (1, 2), (2,))),
    (HIGH, (("four",), ("four",)), ((4,), (4,))),
    (HIGH, (("four", "four"),), ((4, 4),)),
    (HIGH, (("none",), ("two", "four"), ("two",)), ((0,), (2, 4), (2,))),
]


def all_weavings(steps):
    """All orders of the items, each once, found by putting in one item after another at every place."""
    items = [lane for lane, numbers in enumerate(steps) for _ in range(sum(numbers))]
    found = {()}
    for item in items:
        found = {(*order[:at], item, *order[at:]) for order in found for at in range(len(order) + 1)}
    return sorted(found)


def all_places(steps):
    found = []
    for lane, numbers in enumerate(steps):
        done = 0
        for number in numbers:
            found.extend((lane, done + k) for k in range(1, number))
            done += number
    return found


def opened_by(weaving, steps):
    found = []
    for lane, k in all_places(steps):
        at = [position for position, item in enumerate(weaving) if item == lane]
        if any(item != lane for item in weaving[at[k - 1]:at[k]]):
            found.append((lane, k))
    return found


def subsets(places):
    return [chosen for many in range(len(places) + 1) for chosen in itertools.combinations(places, many)]


class PlanTest(unittest.TestCase):
    def assert_lanes(self, plan, lanes):
        self.assertIs(type(plan), Plan)
        self.assertEqual(plan.lanes, lanes)
        self.assertIs(type(plan.lanes), tuple)
        self.assertEqual({type(names) for names in plan.lanes} - {tuple}, set())

    def test_class_values(self):
        self.assertEqual((Plan.MOST_LANES, Plan.MOST_NAMES, Weave.MOST_STEPS), (3, 4, 8))

    def test_a_lane_of_no_to_four_names(self):
        for many in range(5):
            self.assert_lanes(Plan.of(*"abcd"[:many]), (tuple("abcd"[:many]),))
        self.assert_lanes(Plan.of("p", "p", "p", "p"), (("p", "p", "p", "p"),))

    def test_more_than_four_names(self):
        for many in (5, 6, 10):
            with self.subTest(many=many), self.assertRaises(InvalidPlan):
                Plan.of(*["p"] * many)

    def test_the_plan_without_lanes(self):
        self.assert_lanes(Plan.empty(), ())

    def test_names_are_not_checked(self):
        self.assert_lanes(Plan.of("", "A b", "abcdefghijkl"), (("", "A b", "abcdefghijkl"),))

    def test_one_after_the_other(self):
        for first, second in itertools.product(range(5), repeat=2):
            one, two = Plan.of(*"abcd"[:first]), Plan.of(*"efgh"[:second])
            with self.subTest(first=first, second=second):
                if first + second > 4:
                    with self.assertRaises(InvalidPlan):
                        one + two
                else:
                    self.assert_lanes(one + two, (tuple("abcd"[:first] + "efgh"[:second]),))
                self.assert_lanes(one, (tuple("abcd"[:first]),))
                self.assert_lanes(two, (tuple("efgh"[:second]),))

    def test_one_after_the_other_needs_exactly_one_lane_each(self):
        plans = [plan_of(), plan_of(["p"]), plan_of(["p"], ["q"]), plan_of([], []), plan_of(["p"], ["q"], ["r"])]
        for first, second in itertools.product(plans, repeat=2):
            if len(first.lanes) != 1 or len(second.lanes) != 1:
                before = (first.lanes, second.lanes)
                with self.subTest(before=before), self.assertRaises(InvalidPlan):
                    first + second
                self.assertEqual((first.lanes, second.lanes), before)

    def test_side_by_side(self):
        plans = [plan_of(), plan_of(["p"]), plan_of([]), plan_of(["p", "q"], ["q"]), plan_of(["p"], [], ["r", "r"])]
        for first, second in itertools.product(plans, repeat=2):
            before = (first.lanes, second.lanes)
            with self.subTest(before=before):
                if len(first.lanes) + len(second.lanes) > 3:
                    with self.assertRaises(InvalidPlan):
                        first | second
                else:
                    self.assert_lanes(first | second, first.lanes + second.lanes)
                self.assertEqual((first.lanes, second.lanes), before)

    def test_a_plan_with_itself(self):
        plan = Plan.of("p", "q")
        self.assert_lanes(plan + plan, (("p", "q", "p", "q"),))
        self.assert_lanes(plan | plan, (("p", "q"), ("p", "q")))
        self.assert_lanes(plan, (("p", "q"),))

    def test_both_signs_in_one_expression(self):
        plan = Plan.of("p") + Plan.of("q", "r") | Plan.of() | Plan.of("s") + Plan.of()
        self.assert_lanes(plan, (("p", "q", "r"), (), ("s",)))


class NewWeaveTest(unittest.TestCase):
    def test_lengths(self):
        for system, lanes, steps in PLANS:
            with self.subTest(lanes=lanes):
                lengths = Weave(system, plan_of(*lanes)).lengths
                self.assertEqual(lengths, tuple(sum(numbers) for numbers in steps))
                self.assertIs(type(lengths), tuple)

    def test_the_first_unknown_name_lane_by_lane(self):
        for lanes, name in (
            ([["a"]], "a"),
            ([["one", "a", "b"]], "a"),
            ([["one"], ["b", "a"]], "b"),
            ([["one", "b"], ["a"]], "b"),
            ([[], ["none", "one"], ["x"]], "x"),
        ):
            with self.subTest(lanes=lanes), self.assertRaises(UnknownProgram) as caught:
                Weave(LOW, plan_of(*lanes))
            self.assertEqual(caught.exception.name, name)

    def test_an_unknown_name_comes_ahead_of_too_many_steps(self):
        for lanes in (
            [["four", "four", "four", "a"]],
            [["four", "four"], ["four"], ["a"]],
            [["a", "four"], ["four"] * 4],
        ):
            with self.subTest(lanes=lanes), self.assertRaises(UnknownProgram) as caught:
                Weave(HIGH, plan_of(*lanes))
            self.assertEqual(caught.exception.name, "a")

    def test_more_than_eight_steps(self):
        for system, lanes, number in (
            (LOW, [["three", "three", "three"]], 9),
            (LOW, [["three"], ["three"], ["three"]], 9),
            (LOW, [["two"] * 4, ["one"]], 9),
            (HIGH, [["four", "four", "two"]], 10),
            (HIGH, [["four"], ["four"], ["four"]], 12),
            (HIGH, [["four"] * 4, ["four"] * 4, ["four"] * 4], 48),
        ):
            with self.subTest(lanes=lanes), self.assertRaises(TooManySteps) as caught:
                Weave(system, plan_of(*lanes))
            self.assertEqual(caught.exception.number, number)

    def test_exactly_eight_steps(self):
        self.assertEqual(Weave(HIGH, plan_of(["four"], ["four"])).lengths, (4, 4))
        self.assertEqual(Weave(LOW, plan_of(["two"] * 4)).lengths, (8,))


class WeavingsTest(unittest.TestCase):
    def test_walk_total_nth_and_rank(self):
        for system, lanes, steps in PLANS:
            weave = Weave(system, plan_of(*lanes))
            expected = all_weavings(steps)
            with self.subTest(lanes=lanes):
                self.assertEqual(list(weave.walk()), expected)
                self.assertEqual(list(weave.walk(None)), expected)
                self.assertEqual(weave.total(), len(expected))
                self.assertEqual([weave.nth(position) for position in range(len(expected))], expected)
                self.assertEqual([weave.rank(weaving) for weaving in expected], list(range(len(expected))))
                self.assertEqual([weave.rank(list(weaving)) for weaving in expected], list(range(len(expected))))

    def test_numbers_of_weavings(self):
        self.assertEqual(Weave(LOW, plan_of()).total(), 1)
        self.assertEqual(Weave(LOW, plan_of([], ["none"])).total(), 1)
        self.assertEqual(Weave(HIGH, plan_of(["four"], ["four"])).total(), 70)
        self.assertEqual(Weave(LOW, plan_of(["three"], ["three"], ["two"])).total(), 560)
        self.assertEqual(Weave(HIGH, plan_of(["four", "four"])).total(), 1)

    def test_walk_is_a_generator_of_tuples(self):
        weave = Weave(LOW, plan_of(["two"], ["one"]))
        self.assertIsInstance(weave.walk(), types.GeneratorType)
        self.assertEqual({type(weaving) for weaving in weave.walk()}, {tuple})
        self.assertIs(type(weave.nth(0)), tuple)
        self.assertEqual(list(weave.walk()), list(weave.walk()))

    def test_two_walks_at_the_same_time(self):
        weave = Weave(LOW, plan_of(["two"], ["one"]))
        first, second = weave.walk(), weave.walk()
        self.assertEqual([next(first), next(second)], [(0, 0, 1), (0, 0, 1)])
        self.assertEqual([next(second), next(first)], [(0, 1, 0), (0, 1, 0)])

    def test_no_weaving_at_a_position(self):
        for system, lanes, _ in PLANS:
            weave = Weave(system, plan_of(*lanes))
            for position in (-1, -2, -weave.total(), weave.total(), weave.total() + 1, 1000):
                with self.subTest(lanes=lanes, position=position), self.assertRaises(NoWeaving) as caught:
                    weave.nth(position)
                self.assertEqual(caught.exception.position, position)

    def test_walk_steps(self):
        weave = Weave(LOW, plan_of(["two", "one"], [], ["none", "three"]))
        steps = {
            0: [(0, "two", LINES[0]), (0, "two", LINES[1]), (0, "one", LINES[0])],
            2: [(2, "three", LINES[0]), (2, "three", LINES[1]), (2, "three", LINES[2])],
        }
        for weaving in all_weavings([(3,), (), (3,)]):
            expected = [steps[lane][weaving[:position].count(lane)] for position, lane in enumerate(weaving)]
            for given in (weaving, list(weaving)):
                with self.subTest(given=given):
                    found = list(weave.walk_steps(given))
                    self.assertEqual(found, expected)
                    self.assertEqual({type(item) for item in found}, {tuple})
                    self.assertEqual(tuple(given), weaving)
        self.assertIsInstance(weave.walk_steps(weaving), types.GeneratorType)
        self.assertEqual(list(Weave(LOW, plan_of()).walk_steps(())), [])


class InvalidWeavingTest(unittest.TestCase):
    def refused(self, weave, weaving, position):
        for kind in (tuple, list):
            given = kind(weaving)
            # An error of the generator is raised by its first item, not by the call.
            steps = weave.walk_steps(given)
            for call in (weave.rank, weave.opened, lambda _: next(steps)):
                with self.subTest(weaving=weaving), self.assertRaises(InvalidWeaving) as caught:
                    call(given)
                self.assertEqual(caught.exception.position, position)
            self.assertEqual(given, kind(weaving))

    def test_an_item_that_is_no_lane(self):
        weave = Weave(LOW, plan_of(["two"], ["two"]))
        for item in (-1, -2, 2, 3, 99):
            for at in range(4):
                right = [0, 1, 1, 0]
                self.refused(weave, [*right[:at], item, *right[at + 1:]], at)
                self.refused(weave, [*right[:at], item], at)
                self.refused(weave, [*right[:at], item, item, item, item, item], at)

    def test_a_lane_all_of_whose_steps_have_been_executed(self):
        weave = Weave(LOW, plan_of(["two"], ["one"]))
        for weaving, position in (
            ((0, 0, 0), 2),
            ((1, 1, 0), 1),
            ((1, 0, 1), 2),
            ((0, 0, 1, 0), 3),
            ((0, 0, 1, 1, 5), 3),
            ((1, 1, 1), 1),
            ((0, 1, 1), 2),
        ):
            self.refused(weave, weaving, position)

    def test_a_lane_without_steps(self):
        weave = Weave(LOW, plan_of(["none"], ["one"], []))
        for weaving, position in (((0,), 0), ((2, 1), 0), ((1, 0), 1), ((1, 2), 1), ((1, 1), 1), ((), 0)):
            self.refused(weave, weaving, position)
        self.assertEqual(weave.rank((1,)), 0)

    def test_too_short(self):
        weave = Weave(LOW, plan_of(["two"], ["two"]))
        for weaving in ((), (0,), (1, 1), (0, 1, 1), (1, 0)):
            self.refused(weave, weaving, len(weaving))

    def test_a_wrong_item_comes_ahead_of_a_wrong_length(self):
        weave = Weave(LOW, plan_of(["two"], ["two"]))
        self.refused(weave, (2,), 0)
        self.refused(weave, (0, 0, 0), 2)

    def test_plans_without_steps(self):
        for lanes in ([], [[]], [["none"], []]):
            weave = Weave(LOW, plan_of(*lanes))
            self.assertEqual(weave.rank(()), 0)
            self.assertEqual(weave.opened([]), [])
            for item in (-1, 0, 1, 2):
                self.refused(weave, (item,), 0)

    def test_every_short_sequence(self):
        weave = Weave(LOW, plan_of(["two"], ["one"]))
        right = all_weavings([(2,), (1,)])
        beginnings = {weaving[:many] for weaving in right for many in range(4)}
        for length in range(5):
            for sequence in itertools.product((-1, 0, 1, 2), repeat=length):
                if sequence not in right:
                    wrong = [at for at in range(length) if sequence[: at + 1] not in beginnings]
                    self.refused(weave, sequence, wrong[0] if wrong else length)


class PlacesTest(unittest.TestCase):
    def test_places_of_each_plan(self):
        for system, lanes, steps in PLANS:
            with self.subTest(lanes=lanes):
                found = Weave(system, plan_of(*lanes)).places()
                self.assertEqual(found, all_places(steps))
                self.assertEqual({type(place) for place in found} - {tuple}, set())

    def test_places_of_two_occurrences(self):
        self.assertEqual(Weave(LOW, plan_of(["two", "two"])).places(), [(0, 1), (0, 3)])
        self.assertEqual(Weave(LOW, plan_of(["two", "none", "two"])).places(), [(0, 1), (0, 3)])
        self.assertEqual(Weave(LOW, plan_of([], ["one", "three", "one"])).places(), [(1, 2), (1, 3)])
        self.assertEqual(Weave(LOW, plan_of(["one"] * 4, ["one"])).places(), [])

    def test_a_new_list(self):
        weave = Weave(LOW, plan_of(["two"], ["two"]))
        weave.places().append((5, 5))
        weave.opened((0, 1, 0, 1)).clear()
        self.assertEqual(weave.places(), [(0, 1), (1, 1)])
        self.assertEqual(weave.opened((0, 1, 0, 1)), [(0, 1), (1, 1)])
        self.assertEqual(weave.total([(0, 1), (1, 1)]), 6)
        self.assertEqual(weave.total([]), 2)

    def test_opened(self):
        for system, lanes, steps in PLANS:
            weave = Weave(system, plan_of(*lanes))
            for weaving in all_weavings(steps):
                expected = opened_by(weaving, steps)
                with self.subTest(weaving=weaving):
                    self.assertEqual(weave.opened(weaving), expected)
                    self.assertEqual(weave.opened(list(weaving)), expected)

    def test_a_step_between_two_occurrences_opens_no_place(self):
        weave = Weave(LOW, plan_of(["two", "two"], ["one"]))
        self.assertEqual(weave.opened((0, 0, 1, 0, 0)), [])
        self.assertEqual(weave.opened((0, 1, 0, 0, 0)), [(0, 1)])
        self.assertEqual(weave.opened((0, 0, 0, 1, 0)), [(0, 3)])

    def test_within_each_set_of_places(self):
        for system, lanes, steps in PLANS:
            weave = Weave(system, plan_of(*lanes))
            opened = {weaving: opened_by(weaving, steps) for weaving in all_weavings(steps)}
            for places in subsets(all_places(steps)):
                expected = [weaving for weaving in opened if set(opened[weaving]) <= set(places)]
                with self.subTest(lanes=lanes, places=places):
                    self.assertEqual(list(weave.walk(places)), expected)
                    self.assertEqual(weave.total(places), len(expected))
                    self.assertEqual(weave.nth(len(expected) - 1, places), expected[-1])
                    self.assertEqual([weave.nth(k, list(places)) for k in range(len(expected))][:9], expected[:9])
                    for position in (-1, len(expected), len(opened) + 1):
                        with self.assertRaises(NoWeaving) as caught:
                            weave.nth(position, places)
                        self.assertEqual(caught.exception.position, position)

    def test_all_places_and_none_of_them(self):
        for system, lanes, steps in PLANS:
            weave = Weave(system, plan_of(*lanes))
            self.assertEqual(weave.total(all_places(steps)), weave.total())
            serial = [weaving for weaving in weave.walk() if not opened_by(weaving, steps)]
            self.assertEqual(list(weave.walk(())), serial)
            self.assertEqual(list(weave.walk([])), serial)

    def test_serial_weavings(self):
        weave = Weave(LOW, plan_of(["two", "one"], ["two"]))
        self.assertEqual(list(weave.walk([])), [(0, 0, 0, 1, 1), (0, 0, 1, 1, 0), (1, 1, 0, 0, 0)])

    def test_order_and_repetition_of_the_places_do_not_matter(self):
        weave = Weave(LOW, plan_of(["three"], ["two", "two"]))
        for places in itertools.product(weave.places(), repeat=3):
            ordered = sorted(set(places))
            with self.subTest(places=places):
                self.assertEqual(list(weave.walk(places)), list(weave.walk(ordered)))
                self.assertEqual(weave.total(list(places)), weave.total(ordered))
                self.assertEqual(weave.nth(0, places), weave.nth(0, ordered))

    def test_the_places_are_not_modified(self):
        weave = Weave(LOW, plan_of(["three"], ["two", "two"]))
        places = [(1, 3), (0, 2), (1, 3), (0, 1)]
        self.assertEqual(list(weave.walk(places))[0], weave.nth(0, places))
        self.assertGreater(weave.total(places), 2)
        self.assertEqual(places, [(1, 3), (0, 2), (1, 3), (0, 1)])


class InvalidPlacesTest(unittest.TestCase):
    def setUp(self):
        self.weave = Weave(LOW, plan_of(["two", "two"], ["one"], ["three"]))

    def refused(self, places, place):
        for given in (list(places), tuple(places)):
            walk = self.weave.walk(given)
            calls = [
                lambda: self.weave.total(given),
                lambda: next(walk),
                lambda: self.weave.nth(0, given),
                lambda: self.weave.nth(-1, given),
                lambda: self.weave.nth(100000, given),
            ]
            for call in calls:
                with self.subTest(places=places), self.assertRaises(InvalidPlaces) as caught:
                    call()
                self.assertEqual(caught.exception.place, place)

    def test_pairs_that_are_no_places(self):
        self.assertEqual(self.weave.places(), [(0, 1), (0, 3), (2, 1), (2, 2)])
        for place in itertools.product(range(-2, 5), range(-3, 6)):
            if place not in self.weave.places():
                self.refused([place], place)
                self.refused([(2, 1), place, (0, 1)], place)

    def test_the_first_pair_that_is_no_place(self):
        self.refused([(0, 1), (9, 9), (0, 2)], (9, 9))
        self.refused([(0, 2), (9, 9), (0, 1)], (0, 2))
        self.refused([(2, 3), (2, 0), (0, 1)], (2, 3))
        self.refused([(0, 1)] * 5 + [(0, 0)], (0, 0))

    def test_plans_without_places(self):
        for lanes in ([], [[]], [["one", "one"]]):
            self.weave = Weave(LOW, plan_of(*lanes))
            self.refused([(0, 1)], (0, 1))
            self.refused([(0, 0)], (0, 0))

    def test_right_places_after_wrong_ones(self):
        self.refused([(0, 2)], (0, 2))
        self.assertEqual(self.weave.total([(0, 1)]), len(list(self.weave.walk([(0, 1)]))))


if __name__ == "__main__":
    unittest.main()
