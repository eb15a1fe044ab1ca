"""The interface: names, arguments and kinds as written, each method in its own class, each name in its own file."""

import inspect
import unittest

from untoldrule import cells, errors, formulas, plans, programs, runs, schedulers, systems, whole

METHODS = {
    (cells, "Cells"): {
        "__init__": ["self", "names", "size"],
        "__iter__": None,
        "__getitem__": None,
        "__setitem__": None,
        "change": ["self", "name", "value"],
        "reset": ["self", "state"],
        "states": ["self"],
        "rank": ["self", "state"],
        "trial": ["self"],
        "peek": ["self", "changes"],
    },
    (programs, "Read"): {"text": ["self"], "reads": ["self"], "writes": ["self"]},
    (programs, "Write"): {"text": ["self"], "reads": ["self"], "writes": ["self"]},
    (programs, "ReadWrite"): {"text": ["self"], "reads": ["self"], "writes": ["self"]},
    (programs, "Program"): {"text": ["self"]},
    (systems, "System"): {
        "__init__": ["self", "cells", "programs"],
        "program_named": ["self", "name"],
        "functions": ["self"],
    },
    (systems, "Machine"): {
        "__init__": ["self", "system", "size", "tables"],
        "__call__": ["self", "name", "state"],
        "apply": ["self", "function", "args"],
        "run": ["self", "names", "state"],
    },
    (plans, "Plan"): {"__add__": None, "__or__": None},
    (plans, "Weave"): {
        "__init__": ["self", "system", "plan"],
        "places": ["self"],
        "total": ["self", "places=None"],
        "walk": ["self", "places=None"],
        "nth": ["self", "position", "places=None"],
        "rank": ["self", "weaving"],
        "opened": ["self", "weaving"],
        "walk_steps": ["self", "weaving"],
    },
    (whole, "Rule"): {
        "__init__": ["self", "states"],
        "__iter__": None,
        "__len__": None,
        "__contains__": None,
        "__le__": None,
        "__and__": None,
    },
    (whole, "Breach"): {},
    (formulas, "Formulas"): {
        "__init__": ["self", "number"],
        "__call__": ["self", "function", "args"],
        "rows": ["self"],
    },
    (formulas, "FreeStore"): {"__call__": ["self", "function", "args"], "rows": ["self"]},
    (schedulers, "SerialScheduler"): {"__init__": ["self", "system", "plan"], "lets": ["self", "weaving"]},
    (schedulers, "NamesScheduler"): {
        "__init__": ["self", "system", "plan", "woven_only=False"],
        "lets": ["self", "weaving"],
    },
    (schedulers, "TablesScheduler"): {
        "__init__": ["self", "machine", "plan", "woven_only=False"],
        "lets": ["self", "weaving"],
    },
    (schedulers, "RuleScheduler"): {
        "__init__": ["self", "machine", "plan", "rule", "woven_only=False"],
        "lets": ["self", "weaving"],
    },
    (runs, "Run"): {
        "__init__": ["self", "scheduler", "machine", "state"],
        "choices": ["self"],
        "advance": ["self", "lane"],
        "attempt": ["self", "lanes"],
    },
}
BASES = {
    (programs, "ReadWrite"): (programs.Read, programs.Write),
    (schedulers, "NamesScheduler"): (schedulers.SerialScheduler,),
    (schedulers, "TablesScheduler"): (schedulers.NamesScheduler,),
    (schedulers, "RuleScheduler"): (schedulers.TablesScheduler,),
}
PROPERTIES = {(cells, "Cells"): ["contents"], (runs, "Run"): ["state", "done", "finished"]}
CLASS_METHODS = {
    (programs, "Program"): {"read": ["text"]},
    (plans, "Plan"): {"of": ["*names"], "empty": []},
}
FUNCTIONS = {
    cells: {"columns": ["names", "states"]},
    whole: {
        "rows_from": ["machine", "start", "names=None"],
        "least_rule": ["machine", "start", "names=None"],
        "first_break": ["machine", "rule", "names=None"],
        "trace": ["machine", "plan", "weaving", "state"],
        "end_state": ["machine", "plan", "weaving", "state"],
        "least_rows": ["machine", "plan", "weaving", "names=None"],
        "breach": ["machine", "plan", "weaving", "names=None"],
        "broken_at": ["machine", "plan", "weaving", "rule"],
    },
    formulas: {
        "ends": ["system", "plan", "weaving"],
        "same_row": ["system", "plan", "weaving", "names=None"],
        "free_store": ["system", "plan", "weaving", "names=None"],
    },
    schedulers: {
        "let_weavings": ["scheduler"],
        "completions": ["scheduler", "beginning=()"],
        "next_lanes": ["scheduler", "beginning=()"],
        "compare": ["first", "second"],
        "first_fault": ["scheduler", "places=None"],
        "greatest_lots": ["scheduler"],
    },
}


def arguments_of(called):
    return [str(parameter) for parameter in inspect.signature(called).parameters.values()]


class InterfaceTest(unittest.TestCase):
    def test_methods_are_defined_in_the_class_itself(self):
        for (module, owner), methods in METHODS.items():
            for name, arguments in methods.items():
                with self.subTest(owner=owner, name=name):
                    method = vars(getattr(module, owner))[name]
                    if arguments is not None:
                        self.assertEqual(arguments_of(method), arguments)

    def test_class_methods_are_defined_in_the_class_itself(self):
        for (module, owner), methods in CLASS_METHODS.items():
            for name, arguments in methods.items():
                with self.subTest(owner=owner, name=name):
                    self.assertIsInstance(vars(getattr(module, owner))[name], classmethod)
                    self.assertEqual(arguments_of(getattr(getattr(module, owner), name)), arguments)

    def test_classes_are_defined_in_their_file(self):
        for module, owner in METHODS:
            with self.subTest(owner=owner):
                self.assertEqual(getattr(module, owner).__module__, module.__name__)
        self.assertEqual(errors.WeaveError.__module__, "untoldrule.errors")

    def test_functions_are_defined_in_their_file(self):
        for module, functions in FUNCTIONS.items():
            for name, arguments in functions.items():
                with self.subTest(name=name):
                    function = getattr(module, name)
                    self.assertTrue(inspect.isfunction(function))
                    self.assertEqual(function.__module__, module.__name__)
                    self.assertEqual(arguments_of(function), arguments)

    def test_properties(self):
        for (module, owner), names in PROPERTIES.items():
            for name in names:
                with self.subTest(owner=owner, name=name):
                    self.assertIsInstance(vars(getattr(module, owner))[name], property)
        self.assertIsNotNone(cells.Cells.contents.fset)

    def test_bases(self):
        for (module, owner), bases in BASES.items():
            with self.subTest(owner=owner):
                self.assertEqual(getattr(module, owner).__bases__, bases)

    def test_woven_only_stands_behind_the_star(self):
        for owner in ("NamesScheduler", "TablesScheduler", "RuleScheduler"):
            with self.subTest(owner=owner):
                given = inspect.signature(getattr(schedulers, owner)).parameters["woven_only"]
                self.assertIs(given.kind, inspect.Parameter.KEYWORD_ONLY)

    def test_class_values(self):
        self.assertEqual(vars(plans.Plan)["MOST_LANES"], 3)
        self.assertEqual(vars(plans.Plan)["MOST_NAMES"], 4)
        self.assertEqual(vars(plans.Weave)["MOST_STEPS"], 8)

    def test_generators(self):
        for owner, name in ((cells.Cells, "states"), (plans.Weave, "walk"), (plans.Weave, "walk_steps")):
            with self.subTest(name=name):
                self.assertTrue(inspect.isgeneratorfunction(vars(owner)[name]))
        self.assertTrue(inspect.isgeneratorfunction(schedulers.let_weavings))

    def test_arguments_of_cells_may_be_passed_by_name(self):
        held = cells.Cells(names=["x", "y"], size=2)
        held.change(name="x", value=1)
        self.assertEqual(held.peek(changes=[("y", 1)]), (1, 1))
        self.assertEqual(held.rank(state=(1, 0)), 2)
        held.reset(state=(0, 1))
        self.assertEqual(held.contents, (0, 1))
        self.assertEqual(cells.columns(names=["x"], states=[]), ["        x"])

    def test_arguments_of_programs_and_rules_may_be_passed_by_name(self):
        given = programs.Program.read(text="program p\nread x as a write x by f of a")
        system = systems.System(cells=["x"], programs=[given])
        machine = systems.Machine(system=system, size=2, tables={"f": (1, 0)})
        self.assertEqual(system.program_named(name="p").name, "p")
        self.assertEqual(machine.apply(function="f", args=[1]), 0)
        self.assertEqual(machine(name="p", state=[1]), (0,))
        self.assertEqual(machine.run(names=["p", "p"], state=[1]), (1,))
        plan = plans.Plan.of("p")
        weave = plans.Weave(system=system, plan=plan)
        self.assertEqual(weave.total(places=[]), 1)
        self.assertEqual(list(weave.walk(places=[])), [(0,)])
        self.assertEqual(weave.nth(position=0, places=[]), (0,))
        self.assertEqual(weave.rank(weaving=(0,)), 0)
        self.assertEqual(weave.opened(weaving=(0,)), [])
        self.assertEqual(len(list(weave.walk_steps(weaving=(0,)))), 1)
        rule = whole.Rule(states=[(0,)])
        self.assertEqual(len(whole.rows_from(machine=machine, start=(0,), names=["p"])), 2)
        self.assertEqual(len(whole.least_rule(machine=machine, start=(0,), names=["p"])), 2)
        self.assertEqual(whole.first_break(machine=machine, rule=rule, names=["p"]), ((0,), "p"))
        self.assertEqual(whole.end_state(machine=machine, plan=plan, weaving=(0,), state=(0,)), (1,))
        self.assertEqual(whole.trace(machine=machine, plan=plan, weaving=(0,), state=(0,)), [(0,), (1,)])
        self.assertEqual(whole.least_rows(machine=machine, plan=plan, weaving=(0,), names=[]), [None, None])
        self.assertEqual(whole.breach(machine=machine, plan=plan, weaving=(0,), names=[]).step, 0)
        self.assertEqual(whole.broken_at(machine=machine, plan=plan, weaving=(0,), rule=rule), (0,))

    def test_arguments_of_formulas_schedulers_and_runs_may_be_passed_by_name(self):
        given = programs.Program.read(text="program p\nread x as a write x by f of a\nread x as a")
        system = systems.System(cells=["x"], programs=[given])
        machine = systems.Machine(system=system, size=2, tables={"f": (1, 0)})
        plan = plans.Plan.of("p") | plans.Plan.of("p")
        table = formulas.Formulas(number=1)
        self.assertEqual(table(function="f", args=[0]), 1)
        self.assertEqual(formulas.ends(system=system, plan=plan, weaving=(0, 0, 1, 1))[1], (2,))
        self.assertEqual(formulas.same_row(system=system, plan=plan, weaving=(0, 0, 1, 1), names=["p"]), ("p", "p"))
        store = formulas.free_store(system=system, plan=plan, weaving=(0, 0, 1, 1), names=[])
        self.assertEqual([store.size, store(function="f", args=[1])], [4, 2])
        rule = whole.Rule(states=[(0,), (1,)])
        made = [
            schedulers.SerialScheduler(system=system, plan=plan),
            schedulers.NamesScheduler(system=system, plan=plan, woven_only=True),
            schedulers.TablesScheduler(machine=machine, plan=plan, woven_only=True),
            schedulers.RuleScheduler(machine=machine, plan=plan, rule=rule, woven_only=True),
        ]
        for scheduler in made:
            self.assertIs(scheduler.lets(weaving=(0, 0, 1, 1)), True)
            self.assertEqual(len(list(schedulers.let_weavings(scheduler=scheduler))) > 1, True)
            self.assertEqual(schedulers.completions(scheduler=scheduler, beginning=(0, 0)), 1)
            self.assertEqual(schedulers.next_lanes(scheduler=scheduler, beginning=(0, 0)), (1,))
            self.assertIsNone(schedulers.first_fault(scheduler=scheduler, places=[]))
            self.assertEqual(len(schedulers.greatest_lots(scheduler=scheduler)), 1)
        self.assertEqual(schedulers.compare(first=made[2], second=made[3]), (None, None))
        run = runs.Run(scheduler=made[0], machine=machine, state=(0,))
        self.assertEqual([run.advance(lane=0), run.attempt(lanes=[0, 1])], [(1,), (0,)])


if __name__ == "__main__":
    unittest.main()
