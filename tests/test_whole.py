"""Points 2 and 16 to 18: rules, rows of whole programs, and weavings that break a rule."""

import itertools
import random
import unittest

from models import MODELS, RANDOM_MODELS, UP, choices_of_names, plan_of, program, refused, subsets, woven
from untoldrule.errors import InvalidState, InvalidWeaving, OutOfRange, TooManySteps, UnknownProgram
from untoldrule.systems import Machine, System
from untoldrule.whole import (
    Breach,
    Rule,
    breach,
    broken_at,
    end_state,
    first_break,
    least_rows,
    least_rule,
    rows_from,
    trace,
)


def small_models():
    """The models that have so few states that all their rules can be tried."""
    return [model for model, _ in MODELS if len(model.starts) <= 4]


def small_woven():
    return [given for given in woven() if len(given[0].starts) <= 4]


class RuleTest(unittest.TestCase):
    def test_each_state_once_in_ascending_order(self):
        for states in (
            [],
            [(0,)],
            [(2,), (0,), (11,), (10,), (1,), (2,), (0,)],
            [(0, 1), (1, 0), (0, 0), (1, 0), (0, 1)],
            [(2, 10), (10, 2), (2, 9), (11, 0), (9, 11), (2, 10)],
            [(1, 2, 3), (1, 2, 0), (0, 11, 11), (1, 1, 9), (1, 2, 3)],
        ):
            for kind in (list, tuple):
                with self.subTest(states=states):
                    rule = Rule(kind(states))
                    self.assertEqual(list(rule), sorted(set(states)))
                    self.assertEqual(list(rule), sorted(set(states)))
                    self.assertEqual(len(rule), len(set(states)))
                    self.assertEqual({type(state) for state in rule} - {tuple}, set())

    def test_many_states_in_any_order(self):
        states = list(itertools.product(range(12), repeat=2))
        for seed in range(3):
            mixed = random.Random(seed).sample(states, k=len(states))
            self.assertEqual(list(Rule(mixed)), states)
            self.assertEqual(list(Rule(mixed + mixed)), states)
        self.assertEqual(list(Rule(states[::-1])), states)

    def test_every_order_of_a_few_states(self):
        for states in itertools.product([(0, 0), (0, 1), (1, 0), (1, 1)], repeat=4):
            self.assertEqual(list(Rule(states)), sorted(set(states)))

    def test_membership(self):
        rule = Rule([(0, 1), (2, 0)])
        for state in itertools.product(range(-1, 4), repeat=2):
            self.assertIs(state in rule, state in ((0, 1), (2, 0)))
            self.assertIs(state in Rule([]), False)
        for state in ((), (0,), (0, 1, 0), (2, 0, 0)):
            self.assertIs(state in rule, False)

    def test_the_states_are_copied(self):
        states = [(1, 0), (0, 1)]
        rule = Rule(states)
        self.assertEqual(states, [(1, 0), (0, 1)])
        states.append((0, 0))
        states[0] = (1, 1)
        self.assertEqual(list(rule), [(0, 1), (1, 0)])
        self.assertFalse((1, 1) in rule)
        self.assertEqual(len(rule), 2)

    def test_part_of_and_both(self):
        states = [(0, 0), (0, 1), (1, 0), (1, 1)]
        for first, second in itertools.product(subsets(states), repeat=2):
            one, two = Rule(first[::-1]), Rule(second)
            with self.subTest(first=first, second=second):
                self.assertIs(one <= two, set(first) <= set(second))
                both = one & two
                self.assertIs(type(both), Rule)
                self.assertEqual(list(both), sorted(set(first) & set(second)))
                self.assertEqual(len(both), len(set(first) & set(second)))
                self.assertEqual((list(one), list(two)), (sorted(first), sorted(second)))

    def test_a_rule_with_itself_and_with_the_empty_rule(self):
        rule, empty = Rule([(3,), (11,)]), Rule(())
        self.assertIs(rule <= rule, True)
        self.assertEqual(list(rule & rule), [(3,), (11,)])
        self.assertIs(empty <= rule, True)
        self.assertIs(rule <= empty, False)
        self.assertIs(empty <= empty, True)
        self.assertEqual([list(rule & empty), list(empty & rule), len(empty & empty)], [[], [], 0])


class RowsTest(unittest.TestCase):
    def test_rows_from_and_least_rule(self):
        for model, _ in MODELS:
            for names, start in itertools.product(choices_of_names(model), model.starts):
                expected = model.rows(start, names)
                with self.subTest(names=names, start=start):
                    found = rows_from(model.machine, start, names)
                    self.assertEqual(found, list(expected.items()))
                    self.assertEqual(rows_from(model.machine, list(start), names), found)
                    rule = least_rule(model.machine, start, names)
                    self.assertIs(type(rule), Rule)
                    self.assertEqual(list(rule), sorted(expected))
                    self.assertEqual(list(least_rule(model.machine, list(start), names)), sorted(expected))

    def test_the_least_rule_is_part_of_every_kept_rule_with_the_start(self):
        for model in RANDOM_MODELS:
            for names, start in itertools.product(choices_of_names(model), model.starts):
                with_start = [set(states) for states in model.kept_rules(names) if start in states]
                self.assertEqual(set(least_rule(model.machine, start, names)), set.intersection(*with_start))

    def test_the_order_of_the_system_decides(self):
        lines = {"b": "write x by one", "a": "write x by one", "c": "write x by two"}
        for order in itertools.permutations("abc"):
            system = System(["x"], [program(name, lines[name]) for name in order])
            machine = Machine(system, 3, {"one": [1], "two": [2]})
            first = order.index("a") < order.index("b")
            expected = {(): (0,), ("a" if first else "b",): (1,), ("c",): (2,)}
            ordered = sorted(expected, key=lambda row: (len(row), [order.index(name) for name in row]))
            for names in (None, "abc", ["c", "b", "a", "a"]):
                names = names if names is None else list(names)
                self.assertEqual(rows_from(machine, (0,), names), [(expected[row], row) for row in ordered])

    def test_a_shorter_row_comes_before_a_longer_one(self):
        up, jump = program("a", "read x as a write x by up of a"), program("b", "write x by two")
        machine = Machine(System(["x"], [up, jump]), 3, {"up": (1, 2, 2), "two": (2,)})
        self.assertEqual(rows_from(machine, (0,)), [((0,), ()), ((1,), ("a",)), ((2,), ("b",))])
        self.assertEqual(rows_from(machine, (0,), ["a"]), [((0,), ()), ((1,), ("a",)), ((2,), ("a", "a"))])
        self.assertEqual(rows_from(machine, (1,)), [((1,), ()), ((2,), ("a",))])
        self.assertEqual(rows_from(machine, (0,), []), [((0,), ())])

    def test_known_programs_in_any_order_and_repeated(self):
        for model, _ in MODELS[:4]:
            for names in itertools.product(model.names, repeat=3):
                once = [name for name in model.names if name in names]
                for start in model.starts:
                    expected = rows_from(model.machine, start, once)
                    self.assertEqual(rows_from(model.machine, start, names), expected)
                    self.assertEqual(rows_from(model.machine, start, list(names)), expected)

    def test_new_lists_of_tuples(self):
        machine = MODELS[0][0].machine
        found = rows_from(machine, [0, 0])
        self.assertIs(type(found), list)
        for pair in found:
            self.assertEqual([type(pair), type(pair[0]), type(pair[1])], [tuple, tuple, tuple])
        found.clear()
        self.assertEqual(len(rows_from(machine, [0, 0])), 2)

    def test_the_arguments_are_not_modified(self):
        machine, start, names = MODELS[0][0].machine, [0, 1], ["mark", "flip", "mark"]
        rows_from(machine, start, names)
        least_rule(machine, start, names)
        first_break(machine, Rule([(0, 0)]), names)
        self.assertEqual((start, names), ([0, 1], ["mark", "flip", "mark"]))


class FirstBreakTest(unittest.TestCase):
    def test_every_rule(self):
        for model in small_models():
            for names in choices_of_names(model):
                known = [name for name in model.names if names is None or name in names]
                kept = model.kept_rules(names)
                for states in subsets(model.starts):
                    breaks = [
                        (state, name) for state in states for name in known if model.ends[name][state] not in states
                    ]
                    with self.subTest(names=names, states=states):
                        found = first_break(model.machine, Rule(states), names)
                        self.assertEqual(found, breaks[0] if breaks else None)
                        self.assertIs(found is None, states in kept)

    def test_a_pair_of_tuple_and_name(self):
        machine = MODELS[0][0].machine
        found = first_break(machine, Rule([(1, 1), (0, 0)]), ["mark", "flip"])
        self.assertIsNone(found)
        found = first_break(machine, Rule([(1, 0), (0, 0)]))
        self.assertEqual(found, ((0, 0), "flip"))
        self.assertEqual([type(found), type(found[0])], [tuple, tuple])
        self.assertEqual(first_break(machine, Rule([(1, 0), (0, 0)]), ["mark"]), ((0, 0), "mark"))
        self.assertEqual(first_break(machine, Rule([(0, 1), (1, 0)]), ["mark", "flip", "mark"]), ((0, 1), "mark"))

    def test_no_programs_and_no_states(self):
        machine = MODELS[0][0].machine
        self.assertIsNone(first_break(machine, Rule([(0, 1)]), []))
        self.assertIsNone(first_break(machine, Rule([(0, 1)]), ()))
        self.assertIsNone(first_break(machine, Rule([])))


class WeavingTest(unittest.TestCase):
    def test_trace_and_end_state(self):
        for model, lanes, plan, weaving in woven():
            for start in model.starts:
                expected = model.passed(lanes, weaving, start)
                with self.subTest(lanes=lanes, weaving=weaving, start=start):
                    found = trace(model.machine, plan, weaving, start)
                    self.assertEqual(found, expected)
                    self.assertEqual(end_state(model.machine, plan, weaving, start), expected[-1])
            self.assertEqual(trace(model.machine, plan, list(weaving), list(start)), expected)
            self.assertEqual(end_state(model.machine, plan, list(weaving), list(start)), expected[-1])

    def test_each_occurrence_has_its_own_variables(self):
        machine = Machine(System(["x"], [program("p", "read x as a", "write x by up of a")]), 3, UP)
        plan = plan_of(["p"], ["p"], ["p"])
        self.assertEqual(trace(machine, plan, (0, 1, 0, 2, 1, 2), (0,)), [(0,), (0,), (0,), (1,), (1,), (1,), (2,)])
        self.assertEqual(end_state(machine, plan_of(["p", "p"], ["p"]), (1, 0, 0, 0, 0, 1), (0,)), (1,))

    def test_states_are_tuples_in_a_new_list(self):
        model = MODELS[0][0]
        plan, weaving, state = plan_of(["flip"], []), [0, 0], [0, 1]
        found = trace(model.machine, plan, weaving, state)
        self.assertIs(type(found), list)
        self.assertEqual({type(item) for item in found}, {tuple})
        self.assertIs(type(end_state(model.machine, plan_of(), [], state)), tuple)
        found.clear()
        self.assertEqual(len(trace(model.machine, plan, weaving, state)), 3)
        self.assertEqual((weaving, state, plan.lanes), ([0, 0], [0, 1], (("flip",), ())))

    def test_least_rows(self):
        for model, lanes, plan, weaving in woven():
            for names in choices_of_names(model):
                expected = []
                for start in model.starts:
                    end = model.passed(lanes, weaving, start)[-1]
                    expected.append(model.rows(start, names).get(end))
                with self.subTest(lanes=lanes, weaving=weaving, names=names):
                    found = least_rows(model.machine, plan, weaving, names)
                    self.assertEqual(found, expected)
                    self.assertEqual({type(row) for row in found if row is not None} - {tuple}, set())

    def test_breach(self):
        seen = 0
        for model, lanes, plan, weaving in woven():
            for names in choices_of_names(model):
                expected = None
                for start in reversed(model.starts):
                    passed = model.passed(lanes, weaving, start)
                    rule = model.rows(start, names)
                    if passed[-1] not in rule:
                        leaving = [k for k in range(len(weaving)) if passed[k] in rule and passed[k + 1] not in rule]
                        expected = (start, passed[-1], sorted(rule), leaving[-1])
                with self.subTest(lanes=lanes, weaving=weaving, names=names):
                    found = breach(model.machine, plan, list(weaving), names)
                    if expected is None:
                        self.assertIsNone(found)
                    else:
                        seen += 1
                        self.assertIs(type(found), Breach)
                        self.assertIs(type(found.rule), Rule)
                        self.assertEqual((found.start, found.end, list(found.rule), found.step), expected)
                        self.assertEqual(set(vars(found)), {"start", "end", "rule", "step"})
        self.assertGreater(seen, 50)

    def test_the_central_fact(self):
        for model, lanes, plan, weaving in small_woven():
            for names in choices_of_names(model):
                broken = [rule for rule in model.kept_rules(names) if broken_in(model, lanes, weaving, rule)]
                found = breach(model.machine, plan, weaving, names)
                with self.subTest(lanes=lanes, weaving=weaving, names=names):
                    self.assertIs(found is None, not broken)
                    self.assertIs(None in least_rows(model.machine, plan, weaving, names), bool(broken))
                    if found:
                        self.assertIn(tuple(found.rule), broken)
                        self.assertIn(found.start, broken_in(model, lanes, weaving, list(found.rule)))

    def test_the_last_step_that_leaves_the_rule(self):
        pulse = program("p", "write x by one", "write x by zero")
        same = program("q", "read x as a", "write x by same of a")
        machine = Machine(System(["x"], [pulse, same]), 2, {"one": [1], "zero": [0], "same": [0, 1]})
        plan, weaving = plan_of(["p"], ["q"]), (0, 1, 0, 1)
        self.assertEqual(trace(machine, plan, weaving, (0,)), [(0,), (1,), (1,), (0,), (1,)])
        found = breach(machine, plan, weaving)
        self.assertEqual((found.start, found.end, list(found.rule), found.step), ((0,), (1,), [(0,)], 3))

    def test_steps_behind_the_breaking_step(self):
        pulse = program("p", "write x by one", "write x by zero")
        same = program("q", "read x as a", "write x by same of a", "read x as a")
        machine = Machine(System(["x"], [pulse, same]), 2, {"one": [1], "zero": [0], "same": [0, 1]})
        found = breach(machine, plan_of(["q"], ["p"]), [1, 0, 1, 0, 0])
        self.assertEqual((found.start, found.end, list(found.rule), found.step), ((0,), (1,), [(0,)], 3))

    def test_the_first_start_that_breaks(self):
        pulse = program("p", "read x as a", "write x by up of a", "write x by same of a")
        machine = Machine(System(["x"], [pulse]), 3, {"up": [0, 2, 1], "same": [0, 1, 2]})
        found = breach(machine, plan_of(["p"], ["p"]), (0, 0, 1, 0, 1, 1))
        self.assertEqual((found.start, found.end, list(found.rule), found.step), ((1,), (2,), [(1,)], 5))
        self.assertEqual(least_rows(machine, plan_of(["p"], ["p"]), (0, 0, 1, 0, 1, 1)), [(), None, None])

    def test_broken_at(self):
        for model, lanes, plan, weaving in small_woven():
            for states in subsets(model.starts):
                broken = broken_in(model, lanes, weaving, states)
                with self.subTest(lanes=lanes, weaving=weaving, states=states):
                    found = broken_at(model.machine, plan, list(weaving), Rule(states[::-1]))
                    self.assertEqual(found, broken[0] if broken else None)

    def test_broken_at_of_the_empty_rule_and_of_a_state_as_tuple(self):
        model = MODELS[0][0]
        plan, weaving = plan_of(["flip"], ["mark"]), (0, 1, 1, 0)
        self.assertIsNone(broken_at(model.machine, plan, weaving, Rule([])))
        self.assertIsNone(broken_at(model.machine, plan, weaving, Rule(model.starts)))
        found = broken_at(model.machine, plan, weaving, Rule([(1, 1), (0, 0)]))
        self.assertEqual(found, (0, 0))
        self.assertIs(type(found), tuple)


def broken_in(model, lanes, weaving, states):
    return [start for start in states if model.passed(lanes, weaving, start)[-1] not in states]


class ErrorsTest(unittest.TestCase):
    """In each call more arguments are wrong than the one whose error is due."""

    def setUp(self):
        programs = [program("p", "write x by f"), program("four", *["write x by f"] * 4), program("q", "read y as a")]
        self.machine = Machine(System(["x", "y"], programs), 2, {"f": (1,)})
        self.plan = plan_of(["p"], ["q"])
        self.many = plan_of(["four"], ["four"], ["q"])
        self.unknown = plan_of(["four"] * 4, ["p", "nobody"], ["none"])
        self.rule = Rule([(2, 2), (1, 2), (0, 0), (5, 0)])

    def refused(self, call, kind, **fields):
        return refused(self, call, kind, **fields)

    def refused_state(self, call):
        """The call takes a state; it is refused for each wrong state, with the cause of the error."""
        for kind in (tuple, list):
            for state in ((), (0,), (0, 0, 0), (9,)):
                self.assertIsNone(self.refused(lambda: call(kind(state)), InvalidState, cell=None))
            for state, cell, value in (((2, 2), "x", 2), ((-1, 0), "x", -1), ((0, 2), "y", 2), ((1, -1), "y", -1)):
                cause = self.refused(lambda: call(kind(state)), InvalidState, cell=cell)
                self.assertEqual((cause.__class__, vars(cause)), (OutOfRange, {"cell": cell, "value": value}))

    def refused_plan(self, call):
        """The call takes a plan and a weaving, and checks them first."""
        for weaving in ((0, 1), (5,), ()):
            self.refused(lambda: call(self.unknown, weaving), UnknownProgram, name="nobody")
            self.refused(lambda: call(plan_of(["x"]), weaving), UnknownProgram, name="x")
            self.refused(lambda: call(self.many, weaving), TooManySteps, number=9)
        for weaving, position in (((), 0), ((0,), 1), ((2, 0), 0), ((0, 0), 1), ((0, 1, 1), 2), ((1, -1), 1)):
            self.refused(lambda: call(self.plan, weaving), InvalidWeaving, position=position)
            self.refused(lambda: call(self.plan, list(weaving)), InvalidWeaving, position=position)

    def test_rows_from_and_least_rule(self):
        for call in (rows_from, least_rule):
            for state in ((0, 0), (0,), (9, 9)):
                for names, name in ((["nobody"], "nobody"), (("p", "x", "nobody"), "x"), (["p", "q", ""], "")):
                    self.refused(lambda: call(self.machine, state, names), UnknownProgram, name=name)
            for names in (None, [], ["q", "p"]):
                self.refused_state(lambda state: call(self.machine, state, names))

    def test_first_break(self):
        for rule in (self.rule, Rule([]), Rule([(0, 0)])):
            for names, name in ((["nobody"], "nobody"), (("p", "x", "nobody"), "x"), (["p", "q", ""], "")):
                self.refused(lambda: first_break(self.machine, rule, names), UnknownProgram, name=name)
        # The programs lead out of the rule from its first state, but an invalid state comes ahead of that.
        for names in (None, [], ["p"]):
            self.refused_rule(lambda rule: first_break(self.machine, rule, names))

    def refused_rule(self, call):
        cause = self.refused(lambda: call(self.rule), InvalidState, cell="y")
        self.assertEqual((cause.__class__, vars(cause)), (OutOfRange, {"cell": "y", "value": 2}))
        cause = self.refused(lambda: call(Rule([(3, 9), (0, 1), (2, 0)])), InvalidState, cell="x")
        self.assertEqual((cause.__class__, vars(cause)), (OutOfRange, {"cell": "x", "value": 2}))
        self.assertIsNone(self.refused(lambda: call(Rule([(0,), (9,)])), InvalidState, cell=None))
        self.assertIsNone(self.refused(lambda: call(Rule([(9, 9, 9)])), InvalidState, cell=None))

    def test_trace_and_end_state(self):
        for call in (trace, end_state):
            for state in ((0, 0), (0,), (9, 9)):
                self.refused_plan(lambda plan, weaving: call(self.machine, plan, weaving, state))
            self.refused_state(lambda state: call(self.machine, self.plan, (0, 1), state))
            self.refused_state(lambda state: call(self.machine, plan_of(), (), state))

    def test_least_rows_and_breach(self):
        for call in (least_rows, breach):
            for names in (None, ["p"], ["nobody"]):
                self.refused_plan(lambda plan, weaving: call(self.machine, plan, weaving, names))
            for names, name in ((["nobody"], "nobody"), (("p", "x", "nobody"), "x"), (["p", "q", ""], "")):
                self.refused(lambda: call(self.machine, self.plan, (0, 1), names), UnknownProgram, name=name)

    def test_broken_at(self):
        for rule in (self.rule, Rule([]), Rule([(0, 0)])):
            self.refused_plan(lambda plan, weaving: broken_at(self.machine, plan, weaving, rule))
        # The weaving breaks the rule at its first state, but an invalid state comes ahead of that.
        self.refused_rule(lambda rule: broken_at(self.machine, self.plan, (0, 1), rule))


if __name__ == "__main__":
    unittest.main()
