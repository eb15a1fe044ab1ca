"""Point 24: the example of the document, whole."""

import unittest

from untoldrule.formulas import Formulas, ends, free_store, same_row
from untoldrule.plans import Plan, Weave
from untoldrule.programs import Program
from untoldrule.runs import Run
from untoldrule.schedulers import NamesScheduler, TablesScheduler, first_fault, greatest_lots, let_weavings
from untoldrule.systems import Machine, System
from untoldrule.whole import breach, broken_at, end_state, least_rows, least_rule, rows_from, trace

FLIP = """program flip
read x as a write x by f of a
read y as b write y by f of b"""
MARK = """program mark
read x as a write x by g of a
read y as b write y by g of b"""
WEAVINGS = [(0, 0, 1, 1), (0, 1, 0, 1), (0, 1, 1, 0), (1, 0, 0, 1), (1, 0, 1, 0), (1, 1, 0, 0)]
STARTS = [(0, 0), (0, 1), (1, 0), (1, 1)]
RIGHT = [(0, 0, 1, 1), (0, 1, 0, 1), (1, 0, 1, 0), (1, 1, 0, 0)]


class ExampleTest(unittest.TestCase):
    def setUp(self):
        self.system = System(["x", "y"], [Program.read(FLIP), Program.read(MARK)])
        self.machine = Machine(self.system, 2, {"f": (1, 0), "g": (1, 1)})
        self.plan = Plan.of("flip") | Plan.of("mark")
        self.weave = Weave(self.system, self.plan)

    def test_places_and_weavings(self):
        self.assertEqual(self.weave.places(), [(0, 1), (1, 1)])
        self.assertEqual(list(self.weave.walk()), WEAVINGS)
        self.assertEqual(self.weave.total(), 6)
        self.assertEqual(self.weave.opened((0, 1, 1, 0)), [(0, 1)])
        self.assertIn((0, 1, 1, 0), list(self.weave.walk([(0, 1)])))
        self.assertIn((1, 0, 0, 1), list(self.weave.walk([(1, 1)])))

    def test_the_steps_of_the_weaving(self):
        lines = [text.split("\n") for text in (FLIP, MARK)]
        expected = [
            (0, "flip", lines[0][1]),
            (1, "mark", lines[1][1]),
            (1, "mark", lines[1][2]),
            (0, "flip", lines[0][2]),
        ]
        self.assertEqual(list(self.weave.walk_steps((0, 1, 1, 0))), expected)

    def test_the_trace(self):
        found = trace(self.machine, self.plan, (0, 1, 1, 0), (0, 0))
        self.assertEqual(found, [(0, 0), (1, 0), (1, 0), (1, 1), (1, 0)])
        self.assertEqual(end_state(self.machine, self.plan, (0, 1, 1, 0), (0, 0)), (1, 0))

    def test_the_rows_of_whole_programs(self):
        self.assertEqual(rows_from(self.machine, (0, 0)), [((0, 0), ()), ((1, 1), ("flip",))])
        self.assertEqual(rows_from(self.machine, (0, 0), ["mark"]), [((0, 0), ()), ((1, 1), ("mark",))])
        self.assertEqual(list(least_rule(self.machine, (0, 0))), [(0, 0), (1, 1)])

    def test_the_breach(self):
        found = breach(self.machine, self.plan, (0, 1, 1, 0))
        self.assertEqual((found.start, found.end, list(found.rule), found.step), ((0, 0), (1, 0), [(0, 0), (1, 1)], 3))
        self.assertEqual(broken_at(self.machine, self.plan, (0, 1, 1, 0), found.rule), (0, 0))
        self.assertIsNone(least_rows(self.machine, self.plan, (0, 1, 1, 0))[0])

    def test_the_other_table(self):
        machine = Machine(self.system, 2, {"f": (1, 0), "g": (1, 0)})
        for weaving in WEAVINGS:
            with self.subTest(weaving=weaving):
                ends = [end_state(machine, self.plan, weaving, start) for start in STARTS]
                self.assertEqual(ends, STARTS)
                self.assertIsNone(breach(machine, self.plan, weaving))
                self.assertEqual(least_rows(machine, self.plan, weaving), [()] * 4)

    def test_the_formulas(self):
        rows, numbers = ends(self.system, self.plan, (0, 1, 1, 0))
        self.assertEqual(rows, [("f", (0,)), ("g", (2,)), ("g", (1,)), ("f", (4,))])
        self.assertEqual(numbers, (3, 5))
        formulas = Formulas(2)
        self.assertEqual([formulas(function, args) for function, args in rows], [2, 3, 4, 5])
        self.assertIsNone(same_row(self.system, self.plan, (0, 1, 1, 0)))
        self.assertEqual(same_row(self.system, self.plan, (0, 1, 0, 1)), ("flip", "mark"))

    def test_the_free_store(self):
        store = free_store(self.system, self.plan, (0, 1, 1, 0))
        self.assertEqual((store.size, store.start, store.end), (7, (0, 1), (3, 5)))
        self.assertFalse(store.end in store.rule)
        self.assertEqual([store("f", (0,)), store("g", (2,)), store("g", (0,)), store("f", (6,))], [2, 3, 6, 6])
        for weaving in RIGHT:
            self.assertIsNone(free_store(self.system, self.plan, weaving))

    def test_the_names_scheduler(self):
        scheduler = NamesScheduler(self.system, self.plan)
        self.assertEqual(list(let_weavings(scheduler)), RIGHT)
        self.assertEqual(greatest_lots(scheduler), [()])
        self.assertEqual(first_fault(scheduler, [(0, 1)]), (0, 1, 1, 0))
        self.assertEqual(first_fault(scheduler, [(1, 1)]), (1, 0, 0, 1))

    def test_the_tables_scheduler(self):
        machine = Machine(self.system, 2, {"f": (1, 0), "g": (1, 0)})
        scheduler = TablesScheduler(machine, self.plan)
        self.assertEqual(list(let_weavings(scheduler)), WEAVINGS)
        self.assertEqual(greatest_lots(scheduler), [((0, 1), (1, 1))])

    def test_a_run(self):
        run = Run(NamesScheduler(self.system, self.plan), self.machine, (0, 0))
        self.assertEqual([run.advance(lane) for lane in (0, 1)], [(1, 0), (1, 0)])
        self.assertEqual(run.choices(), (0,))


if __name__ == "__main__":
    unittest.main()
