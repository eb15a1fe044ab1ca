"""What holds over the whole program: points 2, 13, 14, 17, and which steps may be exchanged (18 and 21)."""

import itertools
import unittest

from models import EXAMPLE, Model, plan_of, program, random_model, refused
from untoldrule.errors import InvalidWeaving, TooManySteps, UnknownProgram
from untoldrule.formulas import ends, free_store, same_row
from untoldrule.plans import Weave
from untoldrule.runs import Run
from untoldrule.schedulers import (
    NamesScheduler,
    RuleScheduler,
    SerialScheduler,
    TablesScheduler,
    compare,
    completions,
    first_fault,
    greatest_lots,
    let_weavings,
    next_lanes,
)
from untoldrule.systems import Machine, System
from untoldrule.whole import (
    Rule,
    breach,
    broken_at,
    end_state,
    first_break,
    least_rows,
    least_rule,
    rows_from,
    trace,
)

PROGRAMS = [program("p", "write x by f"), program("four", *["write x by f"] * 4), program("q", "read y as a")]
SYSTEM = System(["x", "y"], PROGRAMS)
MACHINE = Machine(SYSTEM, 2, {"f": (1,)})
WRONG_RULE = Rule([(7, 7)])
WRONG_NAMES = ["nobody"]
WRONG_STATE = (9, 9, 9)

# Each call that takes a plan with a system, where all that comes after the plan and the weaving is wrong.
MAKERS = [
    lambda plan: Weave(SYSTEM, plan),
    lambda plan: SerialScheduler(SYSTEM, plan),
    lambda plan: NamesScheduler(SYSTEM, plan),
    lambda plan: NamesScheduler(SYSTEM, plan, woven_only=True),
    lambda plan: TablesScheduler(MACHINE, plan),
    lambda plan: TablesScheduler(MACHINE, plan, woven_only=True),
    lambda plan: RuleScheduler(MACHINE, plan, WRONG_RULE),
    lambda plan: RuleScheduler(MACHINE, plan, WRONG_RULE, woven_only=True),
]
WITH_PLAN_AND_WEAVING = [
    lambda plan, weaving: trace(MACHINE, plan, weaving, WRONG_STATE),
    lambda plan, weaving: end_state(MACHINE, plan, weaving, WRONG_STATE),
    lambda plan, weaving: least_rows(MACHINE, plan, weaving, WRONG_NAMES),
    lambda plan, weaving: breach(MACHINE, plan, weaving, WRONG_NAMES),
    lambda plan, weaving: broken_at(MACHINE, plan, weaving, WRONG_RULE),
    lambda plan, weaving: ends(SYSTEM, plan, weaving),
    lambda plan, weaving: same_row(SYSTEM, plan, weaving, WRONG_NAMES),
    lambda plan, weaving: free_store(SYSTEM, plan, weaving, WRONG_NAMES),
]
WITH_WEAVING = [
    *WITH_PLAN_AND_WEAVING,
    lambda plan, weaving: Weave(SYSTEM, plan).rank(weaving),
    lambda plan, weaving: Weave(SYSTEM, plan).opened(weaving),
    lambda plan, weaving: next(Weave(SYSTEM, plan).walk_steps(weaving)),
    lambda plan, weaving: SerialScheduler(SYSTEM, plan).lets(weaving),
    lambda plan, weaving: NamesScheduler(SYSTEM, plan).lets(weaving),
    lambda plan, weaving: TablesScheduler(MACHINE, plan).lets(weaving),
    lambda plan, weaving: RuleScheduler(MACHINE, plan, Rule([])).lets(weaving),
]
WITH_BEGINNING = [
    lambda plan, beginning: completions(SerialScheduler(SYSTEM, plan), beginning),
    lambda plan, beginning: next_lanes(SerialScheduler(SYSTEM, plan), beginning),
    lambda plan, beginning: completions(RuleScheduler(MACHINE, plan, Rule([])), beginning),
    lambda plan, beginning: next_lanes(RuleScheduler(MACHINE, plan, Rule([])), beginning),
]
WITH_NAMES = [
    lambda names: rows_from(MACHINE, WRONG_STATE, names),
    lambda names: least_rule(MACHINE, WRONG_STATE, names),
    lambda names: first_break(MACHINE, WRONG_RULE, names),
    lambda names: least_rows(MACHINE, plan_of(["p"]), (0,), names),
    lambda names: breach(MACHINE, plan_of(["p"]), (0,), names),
    lambda names: same_row(SYSTEM, plan_of(["p"]), (0,), names),
    lambda names: free_store(SYSTEM, plan_of(["p"]), (0,), names),
]


class PlansTest(unittest.TestCase):
    def calls(self):
        found = list(MAKERS)
        for call, weaving in itertools.product(WITH_PLAN_AND_WEAVING, ((), (0,), (5, 5), (-1,))):
            found.append(lambda plan, call=call, weaving=weaving: call(plan, weaving))
        return found

    def test_the_first_unknown_name_lane_by_lane(self):
        for call in self.calls():
            for lanes, name in (
                ([["a"]], "a"),
                ([["p", "a", "b"]], "a"),
                ([["p"], ["b", "a"]], "b"),
                ([["p", "b"], ["a"]], "b"),
                ([[], ["four", "four", "four", "x"], ["y"]], "x"),
                ([["four"] * 4, ["four"] * 4, ["q", "q", "P"]], "P"),
                ([[""]], ""),
            ):
                with self.subTest(lanes=lanes):
                    refused(self, lambda: call(plan_of(*lanes)), UnknownProgram, name=name)

    def test_then_too_many_steps(self):
        for call in self.calls():
            for lanes, number in (
                ([["four", "four", "q"]], 9),
                ([["four"], ["four"], ["p"]], 9),
                ([["four", "p", "p"], ["four"]], 10),
                ([["four"] * 4, ["four"] * 4, ["four"] * 4], 48),
            ):
                with self.subTest(lanes=lanes):
                    refused(self, lambda: call(plan_of(*lanes)), TooManySteps, number=number)


class WeavingsTest(unittest.TestCase):
    """The plan has a lane with two steps, one without steps, and one with one step."""

    lengths = {0: 2, 1: 0, 2: 1}
    lanes = [["p", "q"], [], ["q"]]

    def position(self, sequence):
        left = dict(self.lengths)
        for position, lane in enumerate(sequence):
            if left.get(lane, 0) == 0:
                return position
            left[lane] -= 1
        return len(sequence)

    def test_every_sequence_that_is_no_weaving(self):
        right = [(0, 0, 2), (0, 2, 0), (2, 0, 0)]
        plan = plan_of(*self.lanes)
        for length in range(5):
            for sequence in itertools.product((-1, 0, 1, 2, 3), repeat=length):
                if sequence not in right and sequence[:3] in [*right, (0, 0, 0), (0, 2, -1), (2, 2, 0), sequence[:2]]:
                    for call, kind in itertools.product(WITH_WEAVING, (tuple, list)):
                        given = kind(sequence)
                        position = self.position(sequence)
                        refused(self, lambda: call(plan, given), InvalidWeaving, position=position)
                        self.assertEqual(given, kind(sequence))

    def test_a_beginning_is_never_too_short(self):
        plan = plan_of(*self.lanes)
        right = [(), (0,), (2,), (0, 0), (0, 2), (2, 0), (0, 0, 2), (0, 2, 0), (2, 0, 0)]
        for length in range(4):
            for sequence in itertools.product((-1, 0, 1, 2, 3), repeat=length):
                for call, kind in itertools.product(WITH_BEGINNING, (tuple, list)):
                    given = kind(sequence)
                    if sequence in right:
                        call(plan, given)
                    else:
                        position = self.position(sequence)
                        refused(self, lambda: call(plan, given), InvalidWeaving, position=position)
                    self.assertEqual(given, kind(sequence))

    def test_the_length_ahead_of_what_is_wrong_behind_the_weaving(self):
        for call in WITH_WEAVING:
            for lanes, weaving, position in (
                ([["p"]], (), 0),
                ([["p"]], (0, 0), 1),
                ([], (0,), 0),
                ([["four"], ["p"]], (0, 1, 0), 3),
                ([["four"], ["four"]], (0,) * 8, 4),
                ([["four"], ["four"]], (0, 1, 0, 1, 0, 1, 0), 7),
            ):
                refused(self, lambda: call(plan_of(*lanes), weaving), InvalidWeaving, position=position)


class NamesTest(unittest.TestCase):
    def test_the_first_unknown_name(self):
        for call in WITH_NAMES:
            for names, name in (
                (["nobody"], "nobody"),
                (("p", "x", "nobody"), "x"),
                (["q", "p", "four", "P", "x"], "P"),
                (["", "x"], ""),
                (("p", "p", "pp"), "pp"),
            ):
                refused(self, lambda: call(names), UnknownProgram, name=name)


def touched(step):
    return {*step.reads(), *step.writes()}


def may_be_exchanged(first, second):
    """Whether neither of two steps writes a cell that the other one reads or writes."""
    return not set(first.writes()) & touched(second) and not set(second.writes()) & touched(first)


def exchanges(model, weave, lanes):
    """Each weaving with each weaving that it becomes if two neighbouring steps that may be exchanged are exchanged."""
    steps = [[step for name in names for step in model.system.program_named(name).steps] for names in lanes]
    for weaving in weave.walk():
        for k in range(len(weaving) - 1):
            if weaving[k] != weaving[k + 1]:
                first = steps[weaving[k]][weaving[:k].count(weaving[k])]
                second = steps[weaving[k + 1]][weaving[:k].count(weaving[k + 1])]
                if may_be_exchanged(first, second):
                    yield weaving, (*weaving[:k], weaving[k + 1], weaving[k], *weaving[k + 2:])


class ExchangeTest(unittest.TestCase):
    def cases(self):
        for seed in range(60, 90):
            model = random_model(seed)
            yield model, [model.names[:1], model.names[-1:]]
            yield model, [[model.names[0], model.names[-1]], [model.names[0]]]
        model = Model(["x", "y"], EXAMPLE, 2, {"f": (1, 0), "g": (1, 1)})
        yield model, [["flip"], ["mark"]]
        yield model, [["flip"], ["mark"], ["flip"]]

    def test_exchanging_steps_that_do_not_touch_each_other(self):
        seen = 0
        for model, lanes in self.cases():
            plan = plan_of(*lanes)
            schedulers = [
                NamesScheduler(model.system, plan),
                NamesScheduler(model.system, plan, woven_only=True),
                TablesScheduler(model.machine, plan),
                TablesScheduler(model.machine, plan, woven_only=True),
                *[RuleScheduler(model.machine, plan, Rule(states)) for states in model.kept_rules(None)[1:4]],
            ]
            for one, two in exchanges(model, Weave(model.system, plan), lanes):
                seen += 1
                with self.subTest(lanes=lanes, one=one, two=two):
                    for start in model.starts:
                        found = end_state(model.machine, plan, one, start)
                        self.assertEqual(found, end_state(model.machine, plan, two, start))
                    self.assertEqual(trees(model, plan, one), trees(model, plan, two))
                    for names in (None, model.names[:1], []):
                        found = least_rows(model.machine, plan, one, names)
                        self.assertEqual(found, least_rows(model.machine, plan, two, names))
                        found = same_row(model.system, plan, one, names)
                        self.assertEqual(found, same_row(model.system, plan, two, names))
                    for scheduler in schedulers:
                        self.assertIs(scheduler.lets(one), scheduler.lets(two))
        self.assertGreater(seen, 200)


def trees(model, plan, weaving):
    """The formulas at the end, written out, since their numbers depend on the order of the steps."""
    rows, numbers = ends(model.system, plan, weaving)
    found = list(model.cells)
    for function, args in rows:
        found.append((function, tuple(found[number] for number in args)))
    return [found[number] for number in numbers]


class ArgumentsTest(unittest.TestCase):
    """No call modifies its arguments, and what it returns is new."""

    def setUp(self):
        self.system = System(["x", "y"], EXAMPLE)
        self.machine = Machine(self.system, 2, {"f": (1, 0), "g": (1, 1)})
        self.plan = plan_of(["flip"], ["mark"])

    def test_arguments_are_not_modified(self):
        weaving, names, places, args = [0, 1, 1, 0], ["mark", "flip", "mark"], [(1, 1), (0, 1), (1, 1)], [1, 0]
        start, beginning, lanes = [0, 1], [0, 1], [0, 1]
        scheduler = NamesScheduler(self.system, self.plan)
        run = Run(scheduler, self.machine, start)
        store = free_store(self.system, self.plan, weaving, names)
        calls = [
            lambda: ends(self.system, self.plan, weaving),
            lambda: same_row(self.system, self.plan, weaving, names),
            lambda: store("f", args),
            lambda: scheduler.lets(weaving),
            lambda: first_fault(scheduler, places),
            lambda: completions(scheduler, beginning),
            lambda: next_lanes(scheduler, beginning),
            lambda: run.attempt(lanes),
            lambda: run.advance(0),
            lambda: TablesScheduler(self.machine, self.plan).lets(weaving),
            lambda: least_rows(self.machine, self.plan, weaving, names),
            lambda: breach(self.machine, self.plan, weaving, names),
            lambda: trace(self.machine, self.plan, weaving, start),
        ]
        for call in calls:
            call()
            self.assertEqual((weaving, names), ([0, 1, 1, 0], ["mark", "flip", "mark"]))
            self.assertEqual((places, args), ([(1, 1), (0, 1), (1, 1)], [1, 0]))
            self.assertEqual((start, beginning, lanes), ([0, 1], [0, 1], [0, 1]))
            self.assertEqual(self.plan.lanes, (("flip",), ("mark",)))

    def test_returned_lists_are_new(self):
        scheduler = TablesScheduler(self.machine, self.plan)
        store = free_store(self.system, self.plan, (0, 1, 1, 0))
        calls = [
            lambda: ends(self.system, self.plan, (0, 1, 1, 0))[0],
            lambda: store.rows(),
            lambda: greatest_lots(scheduler),
            lambda: least_rows(self.machine, self.plan, (0, 1, 1, 0)),
            lambda: rows_from(self.machine, (0, 0)),
            lambda: trace(self.machine, self.plan, (0, 1, 1, 0), (0, 0)),
            lambda: Weave(self.system, self.plan).places(),
            lambda: self.system.functions(),
        ]
        for call in calls:
            expected = list(call())
            self.assertTrue(expected)
            call().clear()
            call().append("more")
            self.assertEqual(call(), expected)
            self.assertIsNot(call(), call())

    def test_a_call_that_raises_changes_nothing(self):
        scheduler = NamesScheduler(self.system, self.plan)
        other = NamesScheduler(self.system, self.plan)
        for weaving in ((), (0, 0, 0), (0, 1), (7,)):
            refused(self, lambda: scheduler.lets(weaving), InvalidWeaving, position={(): 0, (7,): 0}.get(weaving, 2))
        self.assertEqual(list(let_weavings(scheduler)), list(let_weavings(other)))
        self.assertEqual(compare(scheduler, other), (None, None))


if __name__ == "__main__":
    unittest.main()
