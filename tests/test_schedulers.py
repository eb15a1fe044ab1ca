"""Points 2, 21 and 22: schedulers, what they let through, and their greatest lots."""

import inspect
import itertools
import types
import unittest

from models import EXAMPLE, MODELS, Model, plan_of, program, random_model, refused, subsets
from untoldrule.errors import InvalidPlaces, InvalidState, InvalidWeaving, NotKept, OutOfRange, TooManySteps
from untoldrule.errors import UnknownProgram
from untoldrule.plans import Weave
from untoldrule.schedulers import (
    NamesScheduler,
    RuleScheduler,
    SerialScheduler,
    TablesScheduler,
    compare,
    completions,
    first_fault,
    greatest_lots,
    let_weavings,
    next_lanes,
)
from untoldrule.systems import Machine, System
from untoldrule.whole import Rule


class Case:
    """A model, the lanes of a plan, and all that is asked about them in the tests."""

    def __init__(self, model, lanes):
        self.model, self.lanes = model, lanes
        self.plan = plan_of(*lanes)
        self.weave = Weave(model.system, self.plan)
        self.weavings = list(self.weave.walk())
        self.woven = [name for name in model.names if any(name in names for names in lanes)]

    def serial(self):
        return [weaving for weaving in self.weavings if not self.weave.opened(weaving)]

    def right_for_names(self, names):
        return [
            weaving for weaving in self.weavings if self.model.tree_row(self.lanes, weaving, names) is not None
        ]

    def right_for_tables(self, names):
        rows = {start: self.model.rows(start, names) for start in self.model.starts}
        return [
            weaving
            for weaving in self.weavings
            if all(self.model.passed(self.lanes, weaving, start)[-1] in rows[start] for start in rows)
        ]

    def right_for_rule(self, states):
        return [
            weaving
            for weaving in self.weavings
            if all(self.model.passed(self.lanes, weaving, start)[-1] in states for start in states)
        ]

    def schedulers(self):
        """Some schedulers of each kind, each with the weavings that it is to let through."""
        found = [(SerialScheduler(self.model.system, self.plan), self.serial())]
        for woven_only, names in ((False, None), (True, self.woven)):
            scheduler = NamesScheduler(self.model.system, self.plan, woven_only=woven_only)
            found.append((scheduler, self.right_for_names(names)))
            scheduler = TablesScheduler(self.model.machine, self.plan, woven_only=woven_only)
            found.append((scheduler, self.right_for_tables(names)))
            for states in self.model.kept_rules(names)[1::2]:
                scheduler = RuleScheduler(self.model.machine, self.plan, Rule(states), woven_only=woven_only)
                found.append((scheduler, self.right_for_rule(states)))
        return found


def two_programs(long, short):
    tables = {"nil": (0,), "one": (1, 0), "two": (0, 1, 1, 0)}
    return Model(["x", "y"], [program("long", *long), program("short", *short)], 2, tables)


# Systems with several greatest lots.
SAME_SIZE = two_programs(
    ["read x as a write x by one of a", "write y by one of a", "read y as b write x by nil"],
    ["read x as a", "write y by one of a"],
)
DIFFERENT_SIZES = two_programs(
    ["read y as b", "read x as a write x by one of a", "write y by two of b a"],
    ["read y as b write y by one of b", "write y by nil"],
)
SHARED_PLACES = two_programs(
    ["read y as b write x by nil", "read x as a write x by one of a", "write x by two of a b"],
    ["read x as a write x by one of a", "read y as b write x by nil"],
)


def small_cases():
    models = [(model, lanes) for model, plans in MODELS if len(model.starts) <= 4 for lanes in plans]
    three_lanes = [random_model(seed) for seed in range(40, 55)]
    models.extend((model, [model.names[:1], [], model.names[-1:]]) for model in three_lanes)
    for model in (SAME_SIZE, DIFFERENT_SIZES, SHARED_PLACES):
        models.extend((model, lanes) for lanes in ([["long"], ["short"]], [["short"], ["long"]]))
    return [Case(model, lanes) for model, lanes in models]


CASES = small_cases()
SCHEDULERS = [(case, scheduler, right) for case in CASES for scheduler, right in case.schedulers()]


class LetsTest(unittest.TestCase):
    def test_lets_of_every_weaving(self):
        seen = {}
        for case, scheduler, right in SCHEDULERS:
            for weaving in case.weavings:
                with self.subTest(kind=scheduler.__class__, lanes=case.lanes, weaving=weaving):
                    expected = weaving in right
                    self.assertIs(scheduler.lets(weaving), expected)
                    given = list(weaving)
                    self.assertIs(scheduler.lets(given), expected)
                    self.assertEqual(given, list(weaving))
                    seen[scheduler.__class__, expected] = 1
        self.assertEqual(len(seen), 8)

    def test_in_any_order_and_again(self):
        for case, scheduler, right in SCHEDULERS[::5]:
            for weaving in [*case.weavings[::-1], *case.weavings]:
                self.assertIs(scheduler.lets(weaving), weaving in right)

    def test_each_lets_through_what_the_ones_above_let_through(self):
        for case in CASES:
            for woven_only, names in ((False, None), (True, case.woven)):
                model = case.model
                chain = [
                    SerialScheduler(model.system, case.plan),
                    NamesScheduler(model.system, case.plan, woven_only=woven_only),
                    TablesScheduler(model.machine, case.plan, woven_only=woven_only),
                ]
                let = [list(let_weavings(scheduler)) for scheduler in chain]
                with self.subTest(lanes=case.lanes, woven_only=woven_only):
                    self.assertTrue(set(let[0]) <= set(let[1]) <= set(let[2]))
                    for states in model.kept_rules(names):
                        scheduler = RuleScheduler(model.machine, case.plan, Rule(states), woven_only=woven_only)
                        self.assertTrue(set(let[2]) <= set(let_weavings(scheduler)))
                    self.assertEqual(compare(chain[0], chain[1])[0], None)
                    self.assertEqual(compare(chain[1], chain[2])[0], None)

    def test_all_programs_let_through_what_the_woven_ones_let_through(self):
        for case in CASES:
            model = case.model
            for kind, known in ((NamesScheduler, model.system), (TablesScheduler, model.machine)):
                woven = set(let_weavings(kind(known, case.plan, woven_only=True)))
                self.assertTrue(woven <= set(let_weavings(kind(known, case.plan))))
                self.assertEqual(set(let_weavings(kind(known, case.plan, woven_only=False))),
                                 set(let_weavings(kind(known, case.plan))))

    def test_the_tables_scheduler_lets_through_what_no_rule_refuses(self):
        for case in CASES:
            scheduler = TablesScheduler(case.model.machine, case.plan)
            rules = case.model.kept_rules(None)
            expected = [w for w in case.weavings if all(w in case.right_for_rule(states) for states in rules)]
            self.assertEqual(list(let_weavings(scheduler)), expected)

    def test_a_weaving_that_is_wrong_at_one_start_only(self):
        """Each program alone ends where it starts, but one may keep for good what the other one writes in between."""
        pulse = program("p", "read x as a", "write x by up of a", "write x by same of a")
        system, plan = System(["x"], [pulse]), plan_of(["p"], ["p"])
        for up, wrong, end in (((1, 1, 2), (0,), (1,)), ((0, 0, 2), (1,), (0,)), ((0, 1, 0), (2,), (0,))):
            machine = Machine(system, 3, {"up": up, "same": (0, 1, 2)})
            self.assertIs(TablesScheduler(machine, plan).lets((0, 0, 1, 0, 1, 1)), False)
            for states in subsets([(0,), (1,), (2,)]):
                scheduler = RuleScheduler(machine, plan, Rule(states))
                broken = wrong in states and end not in states
                self.assertIs(scheduler.lets((0, 0, 1, 0, 1, 1)), not broken)

    def test_subclasses(self):
        chain = [SerialScheduler, NamesScheduler, TablesScheduler, RuleScheduler]
        for before, after in zip(chain, chain[1:]):
            self.assertTrue(issubclass(after, before))
            self.assertFalse(issubclass(before, after))
        for kind in chain:
            self.assertTrue(inspect.isfunction(vars(kind)["lets"]))

    def test_woven_only_is_passed_by_keyword(self):
        case = CASES[0]
        with self.assertRaises(TypeError):
            NamesScheduler(case.model.system, case.plan, True)
        with self.assertRaises(TypeError):
            TablesScheduler(case.model.machine, case.plan, True)
        with self.assertRaises(TypeError):
            RuleScheduler(case.model.machine, case.plan, Rule([]), True)
        with self.assertRaises(TypeError):
            SerialScheduler(case.model.system, case.plan, woven_only=True)


class WovenOnlyTest(unittest.TestCase):
    """The weaving (0, 1, 0) of p and q does what the program both does, which is not woven."""

    def setUp(self):
        self.programs = [
            program("p", "write x by f", "write x by g"),
            program("q", "read x as a write y by h of a"),
            program("both", "write x by f", "read x as a write y by h of a", "write x by g"),
            program("none"),
        ]
        self.model = Model(["x", "y"], self.programs, 2, {"f": (1,), "g": (0,), "h": (0, 1)})
        self.weaving = (0, 1, 0)

    def lets(self, lanes, **given):
        plan = plan_of(*lanes)
        rule = Rule([(0, 0), (1, 1), (0, 1), (1, 0)])
        weaving = self.weaving
        return [
            NamesScheduler(self.model.system, plan, **given).lets(weaving),
            TablesScheduler(self.model.machine, plan, **given).lets(weaving),
            RuleScheduler(self.model.machine, plan, rule, **given).lets(weaving),
        ]

    def test_all_programs_are_known(self):
        self.assertEqual(self.lets([["p"], ["q"]]), [True, True, True])
        self.assertEqual(self.lets([["p"], ["q"]], woven_only=False), [True, True, True])

    def test_the_woven_programs_are_known(self):
        self.assertEqual(self.lets([["p"], ["q"]], woven_only=True), [False, False, True])
        self.assertEqual(self.lets([["p"], ["none", "q"], ["none"]], woven_only=True), [False, False, True])

    def test_the_program_that_helps_is_woven(self):
        self.weaving = (0, 1, 0, 2, 2, 2)
        self.assertEqual(self.lets([["p"], ["q"], ["both"]], woven_only=True), [True, True, True])

    def test_names_without_steps(self):
        system = System(["x"], [program("none"), program("p", "write x by f")])
        machine = Machine(system, 2, {"f": (1,)})
        for lanes in ([], [[]], [["none"]], [["none", "none"], ["none"], []]):
            for woven_only in (False, True):
                plan = plan_of(*lanes)
                given = {"woven_only": woven_only}
                schedulers = [
                    SerialScheduler(system, plan),
                    NamesScheduler(system, plan, **given),
                    TablesScheduler(machine, plan, **given),
                    RuleScheduler(machine, plan, Rule([(1,)]), **given),
                ]
                for scheduler in schedulers:
                    self.assertIs(scheduler.lets(()), True)
                    self.assertEqual(list(let_weavings(scheduler)), [()])
                    self.assertEqual([completions(scheduler), next_lanes(scheduler)], [1, ()])
                    self.assertEqual(greatest_lots(scheduler), [()])

    def test_the_rule_is_asked_of_the_known_programs(self):
        plan, rule = plan_of(["q"]), Rule([(1, 1)])
        self.assertIs(RuleScheduler(self.model.machine, plan, rule, woven_only=True).lets((0,)), True)
        refused(self, lambda: RuleScheduler(self.model.machine, plan, rule), NotKept, start=(1, 1), program="p")
        plan = plan_of(["none"], ["q", "none"])
        self.assertIs(RuleScheduler(self.model.machine, plan, rule, woven_only=True).lets([1]), True)
        plan = plan_of([], ["none"])
        for states in subsets(self.model.starts):
            self.assertIs(RuleScheduler(self.model.machine, plan, Rule(states), woven_only=True).lets([]), True)


class NewSchedulerTest(unittest.TestCase):
    """In each call more arguments are wrong than the one whose error is due."""

    def setUp(self):
        programs = [program("q", "read y as a"), program("p", "write x by f"), program("four", *["write x by f"] * 4)]
        self.system = System(["x", "y"], programs)
        self.machine = Machine(self.system, 2, {"f": (1,)})

    def makers(self, rule):
        found = [lambda plan: SerialScheduler(self.system, plan)]
        for given in ({}, {"woven_only": False}, {"woven_only": True}):
            found.append(lambda plan, given=given: NamesScheduler(self.system, plan, **given))
            found.append(lambda plan, given=given: TablesScheduler(self.machine, plan, **given))
            found.append(lambda plan, given=given: RuleScheduler(self.machine, plan, rule, **given))
        return found

    def test_the_plan_comes_first(self):
        for rule in (Rule([]), Rule([(0, 0)]), Rule([(2, 2)]), Rule([(0,)])):
            for make in self.makers(rule):
                unknown = plan_of(["four"] * 4, ["p", "nobody"], ["none"])
                refused(self, lambda: make(unknown), UnknownProgram, name="nobody")
                refused(self, lambda: make(plan_of(["x"])), UnknownProgram, name="x")
                refused(self, lambda: make(plan_of(["four"], ["four"], ["q"])), TooManySteps, number=9)

    def test_eight_steps_are_not_too_many(self):
        for make in self.makers(Rule([(1, 0), (1, 1)])):
            self.assertIs(make(plan_of(["four"], ["four"], [])).lets((0, 0, 0, 0, 1, 1, 1, 1)), True)

    def test_then_the_states_of_the_rule(self):
        for woven_only in (False, True):
            def make(*states):
                return lambda: RuleScheduler(self.machine, plan_of(["p"]), Rule(states), woven_only=woven_only)
            cause = refused(self, make((2, 2), (1, 2), (0, 0), (5, 0)), InvalidState, cell="y")
            self.assertEqual((cause.__class__, vars(cause)), (OutOfRange, {"cell": "y", "value": 2}))
            cause = refused(self, make((3, 9), (0, 1), (2, 0)), InvalidState, cell="x")
            self.assertEqual((cause.__class__, vars(cause)), (OutOfRange, {"cell": "x", "value": 2}))
            self.assertIsNone(refused(self, make((0,), (9,)), InvalidState, cell=None))

    def test_then_a_rule_that_is_not_kept(self):
        for plan in (plan_of(["p"]), plan_of(["q", "p"], []), plan_of(["p", "p"], ["q"])):
            for woven_only in (False, True):
                for states, start in (([(0, 0)], (0, 0)), ([(1, 0), (0, 1), (0, 0)], (0, 1))):
                    refused(
                        self,
                        lambda: RuleScheduler(self.machine, plan, Rule(states), woven_only=woven_only),
                        NotKept,
                        start=start,
                        program="p",
                    )

    def test_the_first_state_and_the_first_program_of_it(self):
        for case in CASES:
            model = case.model
            for woven_only, names in ((False, None), (True, case.woven)):
                for states in subsets(model.starts):
                    breaks = [(s, n) for s in states for n in model.known(names) if model.ends[n][s] not in states]
                    rule = Rule(states[::-1])
                    with self.subTest(lanes=case.lanes, woven_only=woven_only, states=states):
                        def make():
                            return RuleScheduler(model.machine, case.plan, rule, woven_only=woven_only)
                        if breaks:
                            refused(self, make, NotKept, start=breaks[0][0], program=breaks[0][1])
                        else:
                            self.assertEqual(list(let_weavings(make())), case.right_for_rule(states))

    def test_the_attributes_of_the_error(self):
        with self.assertRaises(NotKept) as caught:
            RuleScheduler(self.machine, plan_of(["p"]), Rule([(0, 0)]))
        self.assertEqual([type(caught.exception.start), type(caught.exception.program)], [tuple, str])

    def test_wrong_weavings(self):
        for make in self.makers(Rule([(1, 0)])):
            scheduler = make(plan_of(["p", "q"], ["q"]))
            for weaving, position in (
                ((), 0),
                ((0,), 1),
                ((0, 1), 2),
                ((2, 0, 0), 0),
                ((0, -1, 1), 1),
                ((1, 1, 0), 1),
                ((0, 0, 0), 2),
                ((0, 0, 1, 0), 3),
                ((0, 1, 0, 7), 3),
                ((1, -2), 1),
            ):
                refused(self, lambda: scheduler.lets(weaving), InvalidWeaving, position=position)
                refused(self, lambda: scheduler.lets(list(weaving)), InvalidWeaving, position=position)
            self.assertIs(scheduler.lets((0, 1, 0)), True)


class WeavingsTest(unittest.TestCase):
    def test_let_weavings(self):
        for case, scheduler, right in SCHEDULERS:
            with self.subTest(kind=scheduler.__class__, lanes=case.lanes):
                found = list(let_weavings(scheduler))
                self.assertEqual(found, right)
                self.assertEqual(found, sorted(found))
                self.assertEqual({type(weaving) for weaving in found}, {tuple})
                self.assertEqual(list(let_weavings(scheduler)), right)
        self.assertIsInstance(let_weavings(scheduler), types.GeneratorType)

    def test_each_weaving_is_decided_once_and_in_ascending_order(self):
        asked = []

        class Watched(NamesScheduler):
            def lets(self, weaving):
                asked.append(weaving)
                return NamesScheduler.lets(self, weaving)

        for case in CASES:
            asked.clear()
            scheduler = Watched(case.model.system, case.plan)
            with self.subTest(lanes=case.lanes):
                self.assertEqual(list(let_weavings(scheduler)), case.right_for_names(None))
                self.assertEqual(asked, case.weavings)
                completions(scheduler)
                first_fault(scheduler)
                greatest_lots(scheduler)
                self.assertEqual(asked, case.weavings)

    def test_two_generators_at_the_same_time(self):
        system = System(["x", "y"], EXAMPLE)
        scheduler = NamesScheduler(system, plan_of(["flip"], ["mark"]))
        first, second = let_weavings(scheduler), let_weavings(scheduler)
        self.assertEqual([next(first), next(second)], [(0, 0, 1, 1), (0, 0, 1, 1)])
        self.assertEqual([next(second), next(second), next(first)], [(0, 1, 0, 1), (1, 0, 1, 0), (0, 1, 0, 1)])

    def test_completions_and_next_lanes_of_every_beginning(self):
        for case, scheduler, right in SCHEDULERS:
            beginnings = {weaving[:many] for weaving in case.weavings for many in range(len(weaving) + 1)}
            for beginning in beginnings:
                many = len(beginning)
                fitting = [weaving for weaving in right if weaving[:many] == beginning]
                lanes = sorted({weaving[many] for weaving in fitting if len(weaving) > many})
                for given in (beginning, list(beginning)):
                    with self.subTest(kind=scheduler.__class__, lanes=case.lanes, beginning=given):
                        self.assertEqual(completions(scheduler, given), len(fitting))
                        self.assertEqual(next_lanes(scheduler, given), tuple(lanes))
                        self.assertIs(type(next_lanes(scheduler, given)), tuple)
                        self.assertEqual(tuple(given), beginning)

    def test_without_a_beginning(self):
        for _, scheduler, right in SCHEDULERS:
            self.assertEqual(completions(scheduler), len(right))
            self.assertEqual(next_lanes(scheduler), tuple(sorted({weaving[0] for weaving in right if weaving})))

    def test_a_beginning_that_is_not_let_through(self):
        system = System(["x", "y"], EXAMPLE)
        scheduler = SerialScheduler(system, plan_of(["flip"], ["mark"]))
        for beginning in ((0, 1), (1, 0), (0, 1, 1), [0, 1, 0, 1], (1, 0, 0, 1)):
            self.assertEqual([completions(scheduler, beginning), next_lanes(scheduler, beginning)], [0, ()])
        for beginning in ((0, 0, 1, 1), [1, 1, 0, 0]):
            self.assertEqual([completions(scheduler, beginning), next_lanes(scheduler, beginning)], [1, ()])

    def test_sequences_that_are_no_beginnings(self):
        system = System(["x", "y"], [*EXAMPLE, program("none")])
        machine = Machine(system, 2, {"f": (1, 0), "g": (1, 1)})
        plan = plan_of(["flip"], ["none"], ["mark"])
        schedulers = [SerialScheduler(system, plan), NamesScheduler(system, plan), TablesScheduler(machine, plan)]
        for scheduler in [*schedulers, RuleScheduler(machine, plan, Rule([]))]:
            for call in (completions, next_lanes):
                for length in range(6):
                    for sequence in itertools.product((-1, 0, 1, 2, 3), repeat=length):
                        wrong = first_wrong(sequence, {0: 2, 2: 2})
                        if wrong is None:
                            call(scheduler, sequence)
                        elif length < 3 or sequence[:3] in ((0, 2, 0), (2, 2, 0)):
                            refused(self, lambda: call(scheduler, sequence), InvalidWeaving, position=wrong)
                            refused(self, lambda: call(scheduler, list(sequence)), InvalidWeaving, position=wrong)

    def test_compare(self):
        for case in CASES[::2]:
            schedulers = case.schedulers()[:9]
            for (first, one), (second, two) in itertools.product(schedulers, repeat=2):
                only_first = [weaving for weaving in one if weaving not in two]
                only_second = [weaving for weaving in two if weaving not in one]
                expected = (only_first[0] if only_first else None, only_second[0] if only_second else None)
                with self.subTest(lanes=case.lanes, first=first.__class__, second=second.__class__):
                    self.assertEqual(compare(first, second), expected)
                    self.assertEqual(compare(second, first), expected[::-1])
                    self.assertIs(type(compare(first, second)), tuple)

    def test_compare_schedulers_of_which_each_lets_through_what_the_other_one_does_not(self):
        """One rule says that x is not less than y, the other one that it is not greater."""
        model = Model(["x", "y"], EXAMPLE, 2, {"f": (0, 0), "g": (1, 1)})
        plan = plan_of(["flip"], ["mark"])
        first = RuleScheduler(model.machine, plan, Rule([(0, 0), (1, 0), (1, 1)]))
        second = RuleScheduler(model.machine, plan, Rule([(0, 0), (0, 1), (1, 1)]))
        self.assertEqual(compare(first, second), ((0, 1, 1, 0), (1, 0, 0, 1)))
        self.assertEqual(compare(second, first), ((1, 0, 0, 1), (0, 1, 1, 0)))


def first_wrong(sequence, lengths):
    """The first position at which this is no beginning of a weaving of lanes with these lengths, or None."""
    left = dict(lengths)
    for position, lane in enumerate(sequence):
        if not left.get(lane):
            return position
        left[lane] -= 1
    return None


class FaultsTest(unittest.TestCase):
    def test_first_fault_within_each_set_of_places(self):
        for case, scheduler, right in SCHEDULERS:
            for places in [None, *subsets(case.weave.places())]:
                faults = [weaving for weaving in case.weave.walk(places) if weaving not in right]
                with self.subTest(kind=scheduler.__class__, lanes=case.lanes, places=places):
                    found = first_fault(scheduler, places)
                    self.assertEqual(found, faults[0] if faults else None)
                    if places is None:
                        self.assertEqual(first_fault(scheduler), found)
                    else:
                        self.assertEqual(first_fault(scheduler, list(places[::-1]) * 2), found)

    def test_some_places(self):
        system = System(["x", "y"], EXAMPLE)
        scheduler = NamesScheduler(system, plan_of(["flip"], ["mark"]))
        for places, expected in (
            (None, (0, 1, 1, 0)),
            ([], None),
            ((), None),
            ([(0, 1)], (0, 1, 1, 0)),
            ([(1, 1)], (1, 0, 0, 1)),
            ([(1, 1), (1, 1)], (1, 0, 0, 1)),
            ([(1, 1), (0, 1), (1, 1)], (0, 1, 1, 0)),
        ):
            before = None if places is None else list(places)
            found = first_fault(scheduler, places)
            self.assertEqual(found, expected)
            self.assertEqual(None if places is None else list(places), before)

    def test_pairs_that_are_no_places(self):
        system = System(["x", "y"], EXAMPLE)
        machine = Machine(system, 2, {"f": (1, 0), "g": (1, 1)})
        plan = plan_of(["flip", "mark"], ["mark"])
        for scheduler in (
            SerialScheduler(system, plan),
            NamesScheduler(system, plan),
            TablesScheduler(machine, plan, woven_only=True),
            RuleScheduler(machine, plan, Rule([(0, 0), (1, 1)])),
        ):
            for place in ((0, 0), (0, 2), (0, 4), (1, 2), (2, 1), (-1, 1), (0, -1), (0, -3)):
                for places in ([place], ((0, 1), place, (9, 9)), [(1, 1), (0, 3), place, (0, 0)]):
                    refused(self, lambda: first_fault(scheduler, places), InvalidPlaces, place=place)


class GreatestLotsTest(unittest.TestCase):
    def test_greatest_lots_of_every_scheduler(self):
        for case, scheduler, right in SCHEDULERS:
            places = case.weave.places()
            safe = [set(lot) for lot in subsets(places) if all(w in right for w in case.weave.walk(lot))]
            greatest = [tuple(sorted(lot)) for lot in safe if not any(lot < other for other in safe)]
            with self.subTest(kind=scheduler.__class__, lanes=case.lanes):
                found = greatest_lots(scheduler)
                self.assertEqual(found, sorted(greatest, key=lambda lot: (-len(lot), lot)))
                self.assertEqual({type(lot) for lot in found}, {tuple})
                self.assertEqual({type(place) for lot in found for place in lot} - {tuple}, set())

    def test_one_lot_with_all_places(self):
        system = System(["x"], [program("p", "read x as a", "read x as b", "read x as c")])
        plan = plan_of(["p"], ["p"])
        expected = ((0, 1), (0, 2), (1, 1), (1, 2))
        self.assertEqual(greatest_lots(NamesScheduler(system, plan)), [expected])
        self.assertEqual(greatest_lots(SerialScheduler(system, plan)), [()])

    def test_a_plan_with_one_lane(self):
        system = System(["x"], [program("p", "read x as a", "write x by f of a")])
        self.assertEqual(greatest_lots(SerialScheduler(system, plan_of(["p", "p"]))), [((0, 1), (0, 3))])

    def test_the_empty_lot_alone(self):
        system = System(["x", "y"], EXAMPLE)
        self.assertEqual(greatest_lots(NamesScheduler(system, plan_of(["flip"], ["mark"]))), [()])
        self.assertEqual(greatest_lots(SerialScheduler(system, plan_of(["flip"], ["mark"]))), [()])

    def test_lots_of_the_same_size(self):
        for lanes, expected in (
            ([["long"], ["short"]], [((0, 1),), ((1, 1),)]),
            ([["short"], ["long"]], [((0, 1),), ((1, 1),)]),
            ([["long"], ["long"]], [((0, 1),), ((1, 1),)]),
        ):
            self.assertEqual(greatest_lots(NamesScheduler(SAME_SIZE.system, plan_of(*lanes))), expected)

    def test_lots_of_different_sizes(self):
        for lanes, expected in (
            ([["long"], ["short"]], [((0, 1), (0, 2)), ((1, 1),)]),
            ([["short"], ["long"]], [((1, 1), (1, 2)), ((0, 1),)]),
            ([["short"], [], ["long"]], [((2, 1), (2, 2)), ((0, 1),)]),
        ):
            self.assertEqual(greatest_lots(NamesScheduler(DIFFERENT_SIZES.system, plan_of(*lanes))), expected)

    def test_lots_that_share_places(self):
        plan = plan_of(["long"], ["short"])
        expected = [((0, 1), (0, 2)), ((0, 1), (1, 1)), ((0, 2), (1, 1))]
        self.assertEqual(greatest_lots(NamesScheduler(SHARED_PLACES.system, plan)), expected)

    def test_a_returned_list_that_is_changed_does_not_come_again(self):
        for _, scheduler, _ in SCHEDULERS[::7]:
            found = greatest_lots(scheduler)
            before = list(found)
            found.append(((0, 1),))
            found.reverse()
            self.assertEqual(greatest_lots(scheduler), before)
            greatest_lots(scheduler).clear()
            self.assertEqual(greatest_lots(scheduler), before)


class CopiesTest(unittest.TestCase):
    def test_later_changes_have_no_effect(self):
        cells, programs, tables = ["x", "y"], list(EXAMPLE), {"f": [1, 0], "g": [1, 1]}
        system = System(cells, programs)
        machine = Machine(system, 2, tables)
        names, states = ["flip"], [(0, 0), (1, 1)]
        plan, rule = plan_of(names, ["mark"]), Rule(states)
        schedulers = [
            NamesScheduler(system, plan),
            TablesScheduler(machine, plan, woven_only=True),
            RuleScheduler(machine, plan, rule),
        ]
        cells.clear(), programs.clear(), names.clear(), states.clear(), tables.clear()
        expected = [(0, 0, 1, 1), (0, 1, 0, 1), (1, 0, 1, 0), (1, 1, 0, 0)]
        for scheduler in schedulers:
            self.assertEqual(list(let_weavings(scheduler)), expected)

    def test_two_schedulers_do_not_disturb_each_other(self):
        case = CASES[0]
        first, second = [NamesScheduler(case.model.system, case.plan) for _ in range(2)]
        other = NamesScheduler(case.model.system, plan_of(["mark"], ["mark"]))
        for weaving in case.weavings:
            self.assertIs(first.lets(weaving), weaving in case.right_for_names(None))
            self.assertIs(other.lets(weaving), same_ends(case.model, weaving))
            self.assertIs(second.lets(weaving), weaving in case.right_for_names(None))


def same_ends(model, weaving):
    return model.tree_row([["mark"], ["mark"]], weaving, None) is not None


if __name__ == "__main__":
    unittest.main()
