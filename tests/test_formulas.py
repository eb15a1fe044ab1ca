"""Points 2, 19 and 20: formulas, rows that end with the same formulas as a weaving, and free stores."""

import itertools
import unittest

from models import (
    EXAMPLE,
    MODELS,
    Model,
    apply_tree,
    choices_of_names,
    plan_of,
    program,
    refused,
    woven,
)
from untoldrule.errors import InvalidWeaving, TooManySteps, UnknownFormula, UnknownProgram
from untoldrule.formulas import Formulas, FreeStore, ends, free_store, same_row
from untoldrule.plans import Weave
from untoldrule.systems import Machine, System
from untoldrule.whole import Rule, breach


class FormulasTest(unittest.TestCase):
    def test_numbers_from_the_number_of_start_values_on(self):
        for number in (1, 2, 3):
            formulas = Formulas(number)
            found = [formulas("f", [0]), formulas("g", ()), formulas("f", (number,)), formulas("f", [number + 2])]
            self.assertEqual(found, [number, number + 1, number + 2, number + 3])
            self.assertEqual(formulas.rows(), [("f", (0,)), ("g", ()), ("f", (number,)), ("f", (number + 2,))])

    def test_the_same_application_again(self):
        formulas = Formulas(2)
        for args in ([], [1], [0, 1], [1, 1, 0]):
            first = formulas("f", args)
            self.assertEqual([formulas("f", list(args)), formulas("f", tuple(args))], [first, first])
        self.assertEqual([formulas("f", ()), formulas("f", [0, 1])], [2, 4])
        self.assertEqual(formulas.rows(), [("f", ()), ("f", (1,)), ("f", (0, 1)), ("f", (1, 1, 0))])
        self.assertEqual(formulas("g", ()), 6)

    def test_different_functions_and_different_arguments(self):
        formulas = Formulas(2)
        rows = [
            (function, args)
            for many in range(4)
            for args in itertools.product((0, 1), repeat=many)
            for function in ("f", "g", "fg", "x", "of")
        ]
        self.assertEqual([formulas(*row) for row in rows], list(range(2, 2 + len(rows))))
        self.assertEqual([formulas(*row) for row in reversed(rows)], list(range(1 + len(rows), 1, -1)))
        self.assertEqual(formulas.rows(), rows)

    def test_there_is_no_bound(self):
        formulas = Formulas(1)
        for number in range(2000):
            self.assertEqual(formulas("f", (number,)), number + 1)
        self.assertEqual(formulas.rows(), [("f", (number,)) for number in range(2000)])

    def test_a_table_without_applications(self):
        for number in (1, 2, 3):
            self.assertEqual(Formulas(number).rows(), [])

    def test_unknown_formulas(self):
        for number, added in itertools.product((1, 2, 3), (0, 1, 4)):
            formulas = Formulas(number)
            for k in range(added):
                formulas("f", (k,))
            rows = formulas.rows()
            last = number + added - 1
            for wrong in (-1, -2, -last - 1, last + 1, last + 2, 1000):
                for args in ([wrong], [wrong, 0], [0, wrong], [0, last, wrong], [last, wrong, -9], (wrong, 5000, 0)):
                    for function in ("f", "g"):
                        refused(self, lambda: formulas(function, args), UnknownFormula, number=wrong)
                self.assertEqual(formulas.rows(), rows)
            self.assertEqual(formulas("h", (last,)), last + 1)
            self.assertEqual(formulas("h", (last + 1,)), last + 2)

    def test_an_application_of_its_own_number(self):
        formulas = Formulas(2)
        refused(self, lambda: formulas("f", (2,)), UnknownFormula, number=2)
        self.assertEqual(formulas.rows(), [])
        self.assertEqual(formulas("f", ()), 2)
        self.assertEqual(formulas("f", (2,)), 3)

    def test_rows_are_a_new_list_of_tuples(self):
        formulas = Formulas(1)
        formulas("f", [0])
        formulas("g", [0, 1])
        found = formulas.rows()
        self.assertEqual([type(found), *[type(row) for row in found]], [list, tuple, tuple])
        self.assertEqual([type(args) for _, args in found], [tuple, tuple])
        found.reverse()
        found.append(("h", ()))
        self.assertEqual(formulas.rows(), [("f", (0,)), ("g", (0, 1))])
        self.assertEqual(formulas("h", ()), 3)

    def test_the_arguments_are_copied(self):
        formulas = Formulas(2)
        args = [0, 1]
        formulas("f", args)
        self.assertEqual(args, [0, 1])
        args.append(1)
        args[0] = 1
        self.assertEqual(formulas.rows(), [("f", (0, 1))])
        self.assertEqual([formulas("f", (0, 1)), formulas("f", args)], [2, 3])

    def test_two_tables_do_not_disturb_each_other(self):
        first, second = Formulas(1), Formulas(1)
        self.assertEqual([first("f", (0,)), second("g", (0,)), first("h", (1,))], [1, 1, 2])
        self.assertEqual([first.rows(), second.rows()], [[("f", (0,)), ("h", (1,))], [("g", (0,))]])


class EndsTest(unittest.TestCase):
    def test_ends_of_every_weaving(self):
        for model, lanes, plan, weaving in woven():
            end, written = model.tree_ends(lanes, weaving)
            numbers = {tree: number for number, tree in enumerate([*model.cells, *written])}
            expected = [(function, tuple(numbers[part] for part in args)) for function, args in written]
            for given in (weaving, list(weaving)):
                with self.subTest(lanes=lanes, weaving=given):
                    found = ends(model.system, plan, given)
                    self.assertEqual(found, (expected, tuple(numbers[tree] for tree in end)))
                    self.assertEqual([type(found), type(found[0]), type(found[1])], [tuple, list, tuple])
                    self.assertEqual({type(part) for row in found[0] for part in (row, row[1])} - {tuple}, set())
                    self.assertEqual(tuple(given), weaving)

    def test_the_order_in_which_the_weaving_writes(self):
        system = System(["x", "y"], [program("p", "write x by f", "write x by g"), program("q", "write y by g")])
        plan = plan_of(["p"], ["q"])
        self.assertEqual(ends(system, plan, (0, 0, 1)), ([("f", ()), ("g", ())], (3, 3)))
        self.assertEqual(ends(system, plan, (0, 1, 0)), ([("f", ()), ("g", ())], (3, 3)))
        self.assertEqual(ends(system, plan, (1, 0, 0)), ([("g", ()), ("f", ())], (2, 2)))

    def test_a_formula_is_written_again(self):
        system = System(["x", "y"], [program("p", "write x by f", "write y by f", "read x as a write x by g of a a")])
        self.assertEqual(ends(system, plan_of(["p"]), (0,) * 3), ([("f", ()), ("g", (2, 2))], (3, 2)))
        self.assertEqual(ends(system, plan_of(["p", "p"]), (0,) * 6), ([("f", ()), ("g", (2, 2))], (3, 2)))

    def test_reads_copy_formulas(self):
        lines = ["read y as a", "read x as b", "write x by f of a b a", "read x as a write y by f of b a b"]
        system = System(["x", "y"], [program("p", *lines)])
        rows = [("f", (1, 0, 1)), ("f", (0, 2, 0))]
        self.assertEqual(ends(system, plan_of(["p"]), (0, 0, 0, 0)), (rows, (2, 3)))

    def test_each_occurrence_has_its_own_variables(self):
        system = System(["x"], [program("p", "read x as a", "write x by f of a")])
        plan = plan_of(["p", "p"], ["p"])
        self.assertEqual(ends(system, plan, (0, 1, 0, 0, 0, 1)), ([("f", (0,)), ("f", (1,))], (1,)))
        self.assertEqual(ends(system, plan, (1, 1, 0, 0, 0, 0))[1], (3,))

    def test_plans_without_steps(self):
        for cells in (["x"], ["x", "y"], ["z", "y", "x"]):
            system = System(cells, [program("none"), program("p", "write x by f")])
            for lanes in ([], [[]], [["none"]], [["none", "none"], [], ["none"]]):
                found = ends(system, plan_of(*lanes), ())
                self.assertEqual(found, ([], tuple(range(len(cells)))))
                found[0].append(1)
                self.assertEqual(ends(system, plan_of(*lanes), [])[0], [])

    def test_reads_only(self):
        system = System(["x", "y"], [program("p", "read x as a", "read y as a")])
        self.assertEqual(ends(system, plan_of(["p"], ["p"]), [0, 1, 1, 0]), ([], (0, 1)))

    def test_eight_writes(self):
        system = System(["x", "y", "z"], [program("p", *["read z as a write z by f of a"] * 4)])
        rows = [("f", (2,)), *[("f", (number,)) for number in range(3, 10)]]
        self.assertEqual(ends(system, plan_of(["p"], ["p"]), (0, 1) * 4), (rows, (0, 1, 10)))


class SameRowTest(unittest.TestCase):
    def test_same_row_of_every_weaving(self):
        seen = {}
        for model, lanes, plan, weaving in woven():
            for names in choices_of_names(model):
                expected = model.tree_row(lanes, weaving, names)
                with self.subTest(lanes=lanes, weaving=weaving, names=names):
                    found = same_row(model.system, plan, weaving, names)
                    self.assertEqual(found, expected)
                    self.assertIs(type(found), type(expected))
                    kind = "none" if found is None else str(len(found))
                    seen[kind] = seen.get(kind, 0) + 1
        self.assertTrue({"none", "0", "1", "2", "3"} <= set(seen), seen)

    def test_the_row_ends_with_these_formulas_and_no_row_before_it_does(self):
        for model, lanes, plan, weaving in woven():
            row = same_row(model.system, plan, weaving)
            if row is not None:
                end, _ = model.tree_ends(lanes, weaving)
                rows = [
                    before
                    for length in range(len(row) + 1)
                    for before in itertools.product(model.names, repeat=length)
                    if model.row_end(before, model.tree_start, apply_tree) == end
                ]
                with self.subTest(lanes=lanes, weaving=weaving):
                    self.assertEqual(row, rows[0])

    def test_lists_are_taken_as_well(self):
        system = System(["x", "y"], EXAMPLE)
        plan, weaving, names = plan_of(["flip"], ["mark"]), [0, 1, 0, 1], ["mark", "flip"]
        self.assertEqual(same_row(system, plan, weaving, names), ("flip", "mark"))
        self.assertIsNone(free_store(system, plan, weaving, names))
        self.assertEqual((weaving, names), ([0, 1, 0, 1], ["mark", "flip"]))

    def test_the_empty_row(self):
        system = System(["x", "y"], [program("p", "read x as a"), program("q", "write x by f")])
        for names in (None, [], (), ["q"], ["p", "q"]):
            self.assertEqual(same_row(system, plan_of(), (), names), ())
            self.assertEqual(same_row(system, plan_of(["p"], ["p"]), (1, 0), names), ())
            self.assertIsNone(free_store(system, plan_of(), (), names))

    def test_no_known_programs(self):
        system = System(["x"], [program("p", "write x by f")])
        for names in ([], ()):
            self.assertIsNone(same_row(system, plan_of(["p"]), (0,), names))
        self.assertEqual(same_row(system, plan_of(["p"]), (0,)), ("p",))

    def test_the_order_of_the_system_decides(self):
        for order in itertools.permutations("abc"):
            system = System(["x"], [program(name, "write x by f") for name in order])
            for names in (None, *[list(names) for names in itertools.product("abc", repeat=3)]):
                known = [name for name in order if names is None or name in names]
                for name in order:
                    self.assertEqual(same_row(system, plan_of([name]), (0,), names), (known[0],))

    def test_order_and_repetition_of_the_names_do_not_matter(self):
        model, plans = MODELS[3]
        for lanes in plans:
            plan = plan_of(*lanes)
            for weaving in Weave(model.system, plan).walk():
                for names in itertools.product(model.names, repeat=3):
                    once = [name for name in model.names if name in names]
                    expected = same_row(model.system, plan, weaving, once)
                    self.assertEqual(same_row(model.system, plan, weaving, names), expected)
                    self.assertEqual(same_row(model.system, plan, weaving, list(names)), expected)

    def test_a_shorter_row_comes_before_a_longer_one(self):
        programs = [program("a", "write x by f"), program("b", "write y by g"), program("c", "write x by f")]
        system = System(["x", "y"], [*programs, program("d", "write x by f", "write y by g")])
        for weaving in ((0, 1), (1, 0)):
            self.assertEqual(same_row(system, plan_of(["a"], ["b"]), weaving), ("d",))
            self.assertEqual(same_row(system, plan_of(["a"], ["b"]), weaving, ["c", "b", "a"]), ("a", "b"))
            self.assertEqual(same_row(system, plan_of(["a"], ["b"]), weaving, ["c", "b"]), ("b", "c"))

    def test_a_row_that_passes_formulas_which_the_weaving_does_not_have(self):
        programs = [program("a", "write x by f"), program("b", "write y by g")]
        both = [program("c", "write x by h", "write y by g"), program("d", "write x by f")]
        system = System(["x", "y"], [*programs, *both])
        plan = plan_of(["a"], ["b"])
        self.assertEqual(same_row(system, plan, (0, 1), ["c", "d"]), ("c", "d"))
        self.assertIsNone(free_store(system, plan, (0, 1), ["c", "d"]))
        self.assertIsNone(same_row(system, plan, (0, 1), ["c"]))
        self.assertIsNone(same_row(system, plan, (0, 1), ["d"]))

    def test_rows_whose_formulas_never_end(self):
        grow = program("g", "read x as a", "write x by f of a")
        system = System(["x", "y", "z"], [grow, program("h", "read y as a write y by f of a")])
        plan = plan_of(["g", "h"], ["g"])
        self.assertIsNone(same_row(system, plan, (0, 1, 0, 1, 0), ["h"]))
        self.assertEqual(same_row(system, plan, (0, 1, 0, 1, 0)), ("g", "h"))
        self.assertEqual(same_row(system, plan, (1, 1, 0, 0, 0)), ("g", "g", "h"))
        self.assertEqual(same_row(system, plan_of(["g"] * 4), (0,) * 8), ("g",) * 4)
        self.assertIsNone(same_row(system, plan_of(["g"] * 4), (0,) * 8, ["h"]))

    def test_the_same_values_in_all_tables_are_not_the_same_formula(self):
        programs = [program("p", "read x as a", "write x by f of a"), program("q", "read x as a write x by g of a")]
        system = System(["x"], programs)
        self.assertEqual(same_row(system, plan_of(["p"], ["q"]), (0, 1, 0)), ("p",))
        self.assertIsNone(same_row(system, plan_of(["p"], ["q"]), (0, 0, 1), ["p"]))
        machine = Machine(system, 1, {"f": (0,), "g": (0,)})
        self.assertIsNone(breach(machine, plan_of(["p"], ["q"]), (0, 0, 1), ["p"]))


class FreeStoreTest(unittest.TestCase):
    def walk_stores(self):
        """Each weaving and choice of names with its free store, where there is one."""
        for model, lanes, plan, weaving in woven():
            for names in choices_of_names(model):
                store = free_store(model.system, plan, weaving, names)
                if store is not None:
                    yield model, lanes, plan, weaving, names, store

    def test_none_exactly_if_there_is_a_row(self):
        seen = {True: 0, False: 0}
        for model, lanes, plan, weaving in woven():
            for names in choices_of_names(model):
                row = same_row(model.system, plan, weaving, names)
                with self.subTest(lanes=lanes, weaving=weaving, names=names):
                    store = free_store(model.system, plan, list(weaving), names)
                    self.assertIs(store is None, row is not None)
                    seen[store is None] += 1
        self.assertGreater(min(seen.values()), 50)

    def test_attributes(self):
        for model, lanes, plan, weaving, names, store in self.walk_stores():
            rows, numbers = ends(model.system, plan, weaving)
            with self.subTest(lanes=lanes, weaving=weaving, names=names):
                self.assertIs(type(store), FreeStore)
                self.assertEqual(store.size, len(model.cells) + len(rows) + 1)
                self.assertEqual(store.start, tuple(range(len(model.cells))))
                self.assertEqual(store.end, numbers)
                self.assertEqual(store.rows(), rows)
                self.assertIs(type(store.rule), Rule)
                self.assertTrue({"size", "start", "end", "rule", "step"} <= set(vars(store)))
                self.assertEqual([type(store.start), type(store.end), type(store.step)], [tuple, tuple, int])

    def test_the_store_as_a_machine(self):
        """What [18] says of machines holds in the store, whose functions are what the store is called for."""
        for model, lanes, plan, weaving, names, store in self.walk_stores():
            passed = model.passed(lanes, weaving, store.start, store)
            leaving = [
                k for k in range(len(weaving)) if passed[k] in store.rule and passed[k + 1] not in store.rule
            ]
            with self.subTest(lanes=lanes, weaving=weaving, names=names):
                self.assertEqual(passed[-1], store.end)
                self.assertFalse(store.end in store.rule)
                self.assertTrue(store.start in store.rule)
                self.assertEqual(store.step, leaving[-1])
                for state in store.rule:
                    self.assertTrue(all(0 <= value < store.size for value in state))
                    for name in model.known(names):
                        self.assertTrue(model.alone(name, state, store) in store.rule)

    def test_the_rule_is_the_least_rule_of_the_start(self):
        for model, lanes, _, weaving, names, store in self.walk_stores():
            reached = [store.start]
            for state in reached:
                after = [model.alone(name, state, store) for name in model.known(names)]
                reached.extend(sorted(set(after) - set(reached)))
            with self.subTest(lanes=lanes, weaving=weaving, names=names):
                self.assertEqual(list(store.rule), sorted(reached))

    def test_calls(self):
        for model, _, plan, weaving, names, store in self.walk_stores():
            if names is None:
                rows = store.rows()
                starts = len(model.cells)
                functions = [*dict(rows), *[function for function, _ in model.system.functions()], "other"]
                values = sorted({0, 1, store.size - 2, store.size - 1})
                for many, function in itertools.product(range(4), functions):
                    for args in itertools.product(values, repeat=many):
                        expected = starts + rows.index((function, args)) if (function, args) in rows else store.size - 1
                        self.assertEqual(store(function, args), expected)
                        self.assertEqual(store(function, list(args)), expected)
                for number, (function, args) in enumerate(rows):
                    self.assertEqual(store(function, args), starts + number)
                self.assertEqual(store.rows(), rows)

    def test_a_store_with_little_in_it(self):
        system = System(["x"], [program("p", "write x by f")])
        store = free_store(system, plan_of(["p"]), [0], [])
        self.assertEqual((store.size, store.start, store.end, list(store.rule)), (3, (0,), (1,), [(0,)]))
        self.assertEqual((store.step, store.rows()), (0, [("f", ())]))
        self.assertEqual([store("f", ()), store("f", []), store("g", ()), store("f", (0,))], [1, 1, 2, 2])

    def test_the_last_step_that_leaves_the_rule(self):
        pulse = program("p", "write x by f", "write x by g", "read x as a")
        system = System(["x"], [pulse, program("q", "write x by h")])
        store = free_store(system, plan_of(["p"], ["q"]), (0, 0, 1, 0), ["p"])
        self.assertEqual((store.start, store.end, list(store.rule)), ((0,), (3,), [(0,), (2,)]))
        self.assertEqual(store.step, 2)
        store = free_store(system, plan_of(["p"], ["q"]), (1, 0, 0, 0), [])
        self.assertEqual((store.end, list(store.rule), store.step), ((3,), [(0,)], 0))

    def test_a_store_that_leaves_the_rule_twice(self):
        programs = [program("p", "write x by f", "write x by g"), program("q", "read x as a")]
        system = System(["x"], [*programs, program("r", "write x by h")])
        store = free_store(system, plan_of(["p"], ["q"], ["r"]), (0, 1, 0, 2), ["p", "q"])
        self.assertEqual((store.end, list(store.rule), store.step), ((3,), [(0,), (2,)], 3))

    def test_the_greatest_store(self):
        system = System(["x", "y", "z"], [program("p", *["read z as a write z by f of a"] * 4)])
        store = free_store(system, plan_of(["p"], ["p"]), (0, 1) * 4, ())
        self.assertEqual((store.size, store.end, list(store.rule), store.step), (12, (0, 1, 10), [(0, 1, 2)], 0))
        self.assertEqual([store("f", (9,)), store("f", (10,)), store("f", (11,)), store("f", (1,))], [10, 11, 11, 11])
        system = System(["x", "y", "z"], [program("p", *["read z as a write z by f of a"] * 4), program("q")])
        self.assertEqual(same_row(system, plan_of(["p", "p"]), (0,) * 8, ["p", "q"]), ("p", "p"))

    def test_rows_are_a_new_list(self):
        system = System(["x", "y"], EXAMPLE)
        store = free_store(system, plan_of(["flip"], ["mark"]), (0, 1, 1, 0))
        found = store.rows()
        expected = [("f", (0,)), ("g", (2,)), ("g", (1,)), ("f", (4,))]
        self.assertEqual([type(found), found], [list, expected])
        found.clear()
        self.assertEqual(store.rows(), expected)
        self.assertEqual(store("f", [4]), 5)

    def test_a_machine_with_more_formulas_than_the_weaving_has(self):
        """In no machine does a weaving with a row break a rule; this tries the machines of the models."""
        for model, lanes, plan, weaving in woven():
            for names in choices_of_names(model):
                if same_row(model.system, plan, weaving, names) is not None:
                    with self.subTest(lanes=lanes, weaving=weaving, names=names):
                        self.assertIsNone(breach(model.machine, plan, weaving, names))


class ErrorsTest(unittest.TestCase):
    """In each call more arguments are wrong than the one whose error is due."""

    def setUp(self):
        programs = [program("p", "write x by f"), program("four", *["write x by f"] * 4), program("q", "read y as a")]
        self.system = System(["x", "y"], programs)
        self.plan = plan_of(["p"], ["q"])

    def calls(self):
        return [
            lambda plan, weaving, names: ends(self.system, plan, weaving),
            lambda plan, weaving, names: same_row(self.system, plan, weaving, names),
            lambda plan, weaving, names: free_store(self.system, plan, weaving, names),
        ]

    def test_the_plan_comes_first(self):
        unknown = plan_of(["four"] * 4, ["p", "nobody"], ["none"])
        for call, names, weaving in itertools.product(self.calls(), (None, ["x"]), ((0, 1), (5,), ())):
            refused(self, lambda: call(unknown, weaving, names), UnknownProgram, name="nobody")
            refused(self, lambda: call(plan_of(["four"] * 2, ["q"]), weaving, names), TooManySteps, number=9)

    def test_then_the_weaving(self):
        for call, names in itertools.product(self.calls(), (None, ["x"])):
            for weaving, position in (((), 0), ((0,), 1), ((2, 0), 0), ((0, 0), 1), ((0, 1, 1), 2), ((1, -1), 1)):
                refused(self, lambda: call(self.plan, weaving, names), InvalidWeaving, position=position)
                refused(self, lambda: call(self.plan, list(weaving), names), InvalidWeaving, position=position)

    def test_then_the_names(self):
        for call in self.calls()[1:]:
            for names, name in ((["nobody"], "nobody"), (("p", "x", "nobody"), "x"), (["p", "q", ""], "")):
                refused(self, lambda: call(self.plan, (0, 1), names), UnknownProgram, name=name)
                refused(self, lambda: call(plan_of(), (), names), UnknownProgram, name=name)


class LongTest(unittest.TestCase):
    def test_no_row_among_many_states(self):
        """Each cell can be counted up and set back by itself, so the rows pass through many states."""
        programs = [
            program("a", "read x as v write x by f of v"),
            program("b", "read y as v write y by f of v"),
            program("c", "read z as v write z by f of v"),
            program("d", "write x by c", "write y by c", "write z by c"),
        ]
        model = Model(["x", "y", "z"], programs, 1, {"f": [0], "c": [0]})
        plan = plan_of(["d"], ["a", "b", "c"], ["b", "a"])
        weaving = (0, 1, 1, 1, 0, 2, 2, 0)
        self.assertEqual(same_row(model.system, plan, weaving), model.tree_row(plan.lanes, weaving, None))
        weaving = (0, 0, 1, 1, 1, 2, 2, 0)
        self.assertEqual(same_row(model.system, plan, weaving), model.tree_row(plan.lanes, weaving, None))


if __name__ == "__main__":
    unittest.main()
