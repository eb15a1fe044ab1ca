"""Points 2 and 23: runs of a plan within the weavings that a scheduler lets through."""

import unittest

from models import EXAMPLE, MODELS, Model, plan_of, program, random_model, refused
from untoldrule.errors import InvalidState, OutOfRange, Refused
from untoldrule.plans import Weave
from untoldrule.runs import Run
from untoldrule.schedulers import (
    NamesScheduler,
    RuleScheduler,
    SerialScheduler,
    TablesScheduler,
    let_weavings,
)
from untoldrule.systems import Machine, System
from untoldrule.whole import Rule


def facts(run):
    return run.state, run.done, run.finished, run.choices()


def schedulers_of(model, lanes):
    plan = plan_of(*lanes)
    found = [SerialScheduler(model.system, plan)]
    for woven_only in (False, True):
        found.append(NamesScheduler(model.system, plan, woven_only=woven_only))
        found.append(TablesScheduler(model.machine, plan, woven_only=woven_only))
    rules = model.kept_rules(None) if len(model.starts) <= 4 else [()]
    found.extend(RuleScheduler(model.machine, plan, Rule(states)) for states in rules[-2:])
    return found


def cases():
    """Schedulers with the model of their plan and its lanes."""
    models = [*MODELS[:7], (random_model(62), [[["q", "p"], ["p"], ["r"]]])]
    return [
        (model, lanes, scheduler)
        for model, plans in models
        for lanes in plans
        for scheduler in schedulers_of(model, lanes)
    ]


CASES = cases()


def allowed(right, beginning):
    """The lanes with which a weaving goes on that starts with the beginning and that is let through."""
    many = len(beginning)
    return tuple(sorted({weaving[many] for weaving in right if weaving[:many] == beginning and len(weaving) > many}))


class RunTest(unittest.TestCase):
    def test_a_new_run(self):
        for model, lanes, scheduler in CASES:
            right = list(let_weavings(scheduler))
            for state in model.starts:
                with self.subTest(kind=scheduler.__class__, lanes=lanes, state=state):
                    for given in (state, list(state)):
                        run = Run(scheduler, model.machine, given)
                        self.assertEqual(facts(run), (state, (), right == [()], allowed(right, ())))
                        self.assertEqual([type(item) for item in facts(run)], [tuple, tuple, bool, tuple])

    def test_every_weaving_that_is_let_through(self):
        for model, lanes, scheduler in CASES:
            right = list(let_weavings(scheduler))
            for position, weaving in enumerate(right):
                state = model.starts[position % len(model.starts)]
                passed = model.passed(lanes, weaving, state)
                run = Run(scheduler, model.machine, state)
                with self.subTest(kind=scheduler.__class__, lanes=lanes, weaving=weaving, state=state):
                    for many, lane in enumerate(weaving):
                        before = (passed[many], weaving[:many], False, allowed(right, weaving[:many]))
                        self.assertEqual(facts(run), before)
                        found = run.advance(lane)
                        self.assertEqual([found, type(found)], [passed[many + 1], tuple])
                    self.assertEqual(facts(run), (passed[-1], weaving, True, ()))

    def test_while_steps_are_left_at_least_one_lane_may_go(self):
        for model, lanes, scheduler in CASES:
            for last in (0, -1):
                run = Run(scheduler, model.machine, model.starts[-1])
                while not run.finished:
                    run.advance(run.choices()[last])
                self.assertTrue(scheduler.lets(run.done))
                self.assertEqual(run.choices(), ())

    def test_refused_at_every_position(self):
        for model, lanes, scheduler in CASES:
            for weaving in list(let_weavings(scheduler))[::3]:
                run = Run(scheduler, model.machine, model.starts[0])
                for position in range(len(weaving) + 1):
                    before = facts(run)
                    for lane in (-3, -1, 0, 1, 2, 3, 99):
                        if lane not in before[3]:
                            refused(self, lambda: run.advance(lane), Refused, lane=lane, position=position)
                            self.assertEqual(facts(run), before)
                    if position < len(weaving):
                        run.advance(weaving[position])

    def test_a_lane_that_has_steps_left_but_may_not_go(self):
        model = Model(["x", "y"], EXAMPLE, 2, {"f": (1, 0), "g": (1, 1)})
        scheduler = NamesScheduler(model.system, plan_of(["flip"], ["mark"]))
        run = Run(scheduler, model.machine, (0, 0))
        self.assertEqual([run.advance(0), run.advance(1), run.choices()], [(1, 0), (1, 0), (0,)])
        refused(self, lambda: run.advance(1), Refused, lane=1, position=2)
        self.assertEqual(facts(run), ((1, 0), (0, 1), False, (0,)))
        self.assertEqual([run.advance(0), run.advance(1)], [(1, 1), (1, 1)])
        for lane in (-1, 0, 1, 2):
            refused(self, lambda: run.advance(lane), Refused, lane=lane, position=4)
        self.assertEqual(facts(run), ((1, 1), (0, 1, 0, 1), True, ()))

    def test_plans_without_steps(self):
        system = System(["x"], [program("none")])
        machine = Machine(system, 3, {})
        for lanes in ([], [[]], [["none"], ["none", "none"]]):
            run = Run(SerialScheduler(system, plan_of(*lanes)), machine, [2])
            self.assertEqual(facts(run), ((2,), (), True, ()))
            for lane in (-1, 0, 1, 2):
                refused(self, lambda: run.advance(lane), Refused, lane=lane, position=0)
                refused(self, lambda: run.attempt([lane]), Refused, lane=lane, position=0)
            self.assertEqual(run.attempt([]), (2,))
            self.assertEqual(facts(run), ((2,), (), True, ()))

    def test_each_occurrence_has_its_own_variables(self):
        system = System(["x"], [program("p", "read x as a", "write x by up of a")])
        machine = Machine(system, 3, {"up": (1, 2, 0)})
        scheduler = NamesScheduler(system, plan_of(["p"], ["p"], ["p"]))
        run = Run(scheduler, machine, (0,))
        self.assertEqual([run.advance(lane) for lane in (0, 1, 0, 2, 1, 2)], [(0,), (0,), (1,), (1,), (1,), (2,)])

    def test_properties_are_not_assigned(self):
        model, lanes, scheduler = CASES[0]
        run = Run(scheduler, model.machine, (0, 0))
        for name in ("state", "done", "finished"):
            self.assertIsInstance(vars(Run)[name], property)
            with self.assertRaises(AttributeError):
                setattr(run, name, ())


class MachineTest(unittest.TestCase):
    def test_a_machine_of_another_size_with_other_tables(self):
        small = Model(["x", "y"], EXAMPLE, 2, {"f": (1, 0), "g": (1, 0)})
        lanes = [["flip"], ["mark"]]
        scheduler = TablesScheduler(small.machine, plan_of(*lanes))
        for size, tables in ((1, {"f": (0,), "g": (0,)}), (3, {"f": (1, 2, 0), "g": (2, 2, 1)})):
            # The machine has the very system of the scheduler.
            machine = Machine(small.system, size, tables)
            model = Model(["x", "y"], EXAMPLE, size, tables)
            for weaving in let_weavings(scheduler):
                for state in model.starts:
                    run = Run(scheduler, machine, state)
                    passed = [state, *[run.advance(lane) for lane in weaving]]
                    self.assertEqual(passed, model.passed(lanes, weaving, state))
        self.assertEqual(run.state, model.passed(lanes, weaving, state)[-1])

    def test_other_tables_do_not_change_what_may_go(self):
        model = Model(["x", "y"], EXAMPLE, 2, {"f": (1, 0), "g": (1, 1)})
        plan = plan_of(["flip"], ["mark"])
        same = Machine(model.system, 2, {"f": (1, 0), "g": (1, 0)})
        run = Run(TablesScheduler(model.machine, plan), same, (0, 0))
        self.assertEqual(run.attempt((0, 1)), (0, 0))
        refused(self, lambda: run.attempt((0, 1, 1)), Refused, lane=1, position=2)
        run = Run(TablesScheduler(same, plan), model.machine, (0, 0))
        self.assertEqual(run.attempt((0, 1, 1, 0)), (1, 0))

    def test_invalid_states(self):
        model = Model(["x", "y"], EXAMPLE, 2, {"f": (1, 0), "g": (1, 1)})
        scheduler = TablesScheduler(model.machine, plan_of(["flip"], ["mark"]))
        three = Machine(model.system, 3, {"f": (1, 0, 0), "g": (1, 1, 1)})
        for kind in (tuple, list):
            for state in ((), (0,), (0, 0, 0), (9,), (5, 5, 5)):
                self.assertIsNone(
                    refused(self, lambda: Run(scheduler, model.machine, kind(state)), InvalidState, cell=None)
                )
            for state, cell, value in (((2, 2), "x", 2), ((-1, 0), "x", -1), ((0, 2), "y", 2), ((1, -1), "y", -1)):
                cause = refused(self, lambda: Run(scheduler, model.machine, kind(state)), InvalidState, cell=cell)
                self.assertEqual((cause.__class__, vars(cause)), (OutOfRange, {"cell": cell, "value": value}))
            cause = refused(self, lambda: Run(scheduler, three, kind((2, 3))), InvalidState, cell="y")
            self.assertEqual(vars(cause), {"cell": "y", "value": 3})
            self.assertEqual(Run(scheduler, three, kind((2, 2))).state, (2, 2))


class AttemptTest(unittest.TestCase):
    def test_attempts_that_go_through_from_every_beginning(self):
        for model, lanes, scheduler in CASES:
            right = list(let_weavings(scheduler))
            for position, weaving in enumerate(right[::2]):
                state = model.starts[position % len(model.starts)]
                passed = model.passed(lanes, weaving, state)
                run = Run(scheduler, model.machine, state)
                for done in range(len(weaving) + 1):
                    before = facts(run)
                    for until in range(done, len(weaving) + 1):
                        for kind in (tuple, list):
                            given = kind(weaving[done:until])
                            found = run.attempt(given)
                            self.assertEqual([found, type(found)], [passed[until], tuple])
                            self.assertEqual(given, kind(weaving[done:until]))
                        self.assertEqual(facts(run), before)
                    if done < len(weaving):
                        self.assertEqual(run.advance(weaving[done]), passed[done + 1])

    def test_attempts_that_are_refused_at_each_place(self):
        for model, lanes, scheduler in CASES:
            right = list(let_weavings(scheduler))
            for weaving in right[::4]:
                run = Run(scheduler, model.machine, model.starts[-1])
                for done in range(len(weaving) + 1):
                    before = facts(run)
                    for until in range(done, len(weaving) + 1):
                        for lane in (-1, 0, 1, 2, 7):
                            if lane not in allowed(right, weaving[:until]):
                                # The lanes behind the one that is refused are not looked at.
                                for rest in ((), (0, 1), (-9, 50)):
                                    given = [*weaving[done:until], lane, *rest]
                                    refused(self, lambda: run.attempt(given), Refused, lane=lane, position=until)
                                self.assertEqual(facts(run), before)
                    if done < len(weaving):
                        run.advance(weaving[done])

    def test_the_run_goes_on_as_if_there_had_been_no_attempt(self):
        """The attempts execute reads, whose variables must be taken back as well."""
        system = System(["x"], [program("p", "read x as a", "write x by up of a", "write x by up of a")])
        machine = Machine(system, 3, {"up": (1, 2, 0)})
        plan = plan_of(["p"], ["p"])
        run = Run(RuleScheduler(machine, plan, Rule([])), machine, (0,))
        run.advance(0)
        self.assertEqual(run.attempt((1, 1, 1)), (1,))
        self.assertEqual(run.attempt([0, 1, 1]), (2,))
        refused(self, lambda: run.attempt([0, 0, 1, 0]), Refused, lane=0, position=4)
        self.assertEqual([run.advance(1), run.advance(1), run.advance(0)], [(0,), (1,), (1,)])
        self.assertEqual(run.attempt([0, 1]), (1,))
        self.assertEqual((run.done, run.state), ((0, 1, 1, 0), (1,)))


class TwoRunsTest(unittest.TestCase):
    def test_two_runs_do_not_disturb_each_other(self):
        for model, lanes, scheduler in CASES:
            right = list(let_weavings(scheduler))
            one, two = right[0], right[-1]
            first = Run(scheduler, model.machine, model.starts[0])
            second = Run(scheduler, model.machine, model.starts[-1])
            for k in range(len(one)):
                first.advance(one[k])
                second.attempt([two[k]])
                expected = model.passed(lanes, one, model.starts[0])[k + 1]
                self.assertEqual((first.state, first.done), (expected, one[:k + 1]))
                self.assertEqual(second.done, two[:k])
                second.advance(two[k])
                self.assertEqual((first.state, first.done), (expected, one[:k + 1]))
                self.assertEqual(second.state, model.passed(lanes, two, model.starts[-1])[k + 1])

    def test_a_run_does_not_change_its_scheduler_and_its_machine(self):
        model, lanes, scheduler = CASES[1]
        right = list(let_weavings(scheduler))
        ends = [model.machine(name, start) for name in model.names for start in model.starts]
        for weaving in right:
            run = Run(scheduler, model.machine, (0, 1))
            for lane in weaving:
                run.advance(lane)
        self.assertEqual(list(let_weavings(scheduler)), right)
        self.assertEqual([model.machine(name, start) for name in model.names for start in model.starts], ends)

    def test_the_state_is_copied(self):
        model, _, scheduler = CASES[0]
        state = [0, 1]
        run = Run(scheduler, model.machine, state)
        state[0] = 1
        state.append(5)
        self.assertEqual(run.state, (0, 1))
        self.assertEqual(run.attempt([0]), model.passed([["flip"], ["mark"]], (0,), (0, 1))[-1])


class LongRunTest(unittest.TestCase):
    def test_eight_steps(self):
        turn = ["read x as a write x by up of a", "read y as b write y by up of b"]
        back = ["read x as a write x by down of a", "read y as b write y by down of b"]
        tables = {"up": (1, 2, 0), "down": (1, 0, 2)}
        model = Model(["x", "y"], [program("p", *turn, *turn), program("q", *back, *turn)], 3, tables)
        lanes = [["p"], ["q"]]
        scheduler = TablesScheduler(model.machine, plan_of(*lanes))
        right = list(let_weavings(scheduler))
        self.assertTrue(2 < len(right) < Weave(model.system, plan_of(*lanes)).total())
        for weaving in right:
            run = Run(scheduler, model.machine, (2, 1))
            self.assertEqual([(2, 1), *[run.advance(lane) for lane in weaving]], model.passed(lanes, weaving, (2, 1)))
            refused(self, lambda: run.advance(0), Refused, lane=0, position=8)


if __name__ == "__main__":
    unittest.main()
