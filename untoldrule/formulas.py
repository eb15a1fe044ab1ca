"""Formulas: what weavings and rows compute if nothing is known about the functions but their names."""

from untoldrule.errors import UnknownFormula
from untoldrule.steps import do_program, do_turns
from untoldrule.whole import Rule, find_breaking_step, find_rows, list_weaving


class Formulas:
    """A table of formulas: the start values, and functions applied to formulas."""

    def __init__(self, number):
        self._starts = number
        self._numbers = {}

    def __call__(self, function, args):
        for item in args:
            if not 0 <= item < self.total():
                raise UnknownFormula(item)
        return self._numbers.setdefault((function, tuple(args)), self.total())

    def rows(self):
        """Return the list of the applications (function, args), in the order of their numbers."""
        return list(self._numbers)

    def total(self):
        """Return the number of all formulas, start values included."""
        return self._starts + len(self._numbers)

    def number_of(self, function, args):
        """Return the number of an application, or, if it is not in the table, the number of all formulas."""
        return self._numbers.get((function, tuple(args)), self.total())


class FreeStore:
    """A store of formulas in which a weaving breaks a rule that all known programs keep."""

    def __init__(self, formulas, passed, rule):
        self._formulas = formulas
        self.size = formulas.total() + 1
        self.start = passed[0]
        self.end = passed[-1]
        self.rule = rule
        self.step = find_breaking_step(passed, rule)

    def rows(self):
        """Return the list of the applications among the formulas of the weaving."""
        return self._formulas.rows()

    def __call__(self, function, args):
        return self._formulas.number_of(function, args)


def ends(system, plan, weaving):
    """Return the list of the applications that a weaving writes, and the tuple of the formulas at its end."""
    turns = list_weaving(system, plan, weaving)
    formulas = Formulas(len(system.cells))
    passed = follow_formulas(system, turns, formulas)
    return (formulas.rows(), passed[-1])


def same_row(system, plan, weaving, names=None):
    """Return the least row of known programs that ends with the same formulas as the weaving, or None."""
    turns = list_weaving(system, plan, weaving)
    return find_same_row(system, turns, system.known(names))


def free_store(system, plan, weaving, names=None):
    """Return the free store of the weaving, or None if there is a row that ends with the same formulas."""
    turns = list_weaving(system, plan, weaving)
    known = system.known(names)
    formulas = Formulas(len(system.cells))
    passed = follow_formulas(system, turns, formulas)
    rows = find_free_rows(system, known, formulas)
    if passed[-1] in rows:
        return None
    return FreeStore(formulas, passed, Rule(list(rows)))


def find_same_row(system, turns, known):
    """Return the least row of these programs that ends with the same formulas as the turns of a weaving, or None."""
    formulas = Formulas(len(system.cells))
    passed = follow_formulas(system, turns, formulas)
    return find_free_rows(system, known, formulas).get(passed[-1])


def free_start(system):
    """Return the state in which each cell holds its own start value."""
    return tuple(range(len(system.cells)))


def follow_formulas(system, turns, formulas):
    """Return the list of the states around the turns of a plan; the formulas that they write are put into the table."""
    return do_turns(turns, system.cells, free_start(system), formulas)


def find_free_rows(system, known, formulas):
    """Return a dict from each state that rows lead to in the free store with these formulas to its least row.

    Rows may compute endless formulas, but in the free store they pass finitely many states. Nothing is lost by that:
    the arguments of each formula in the table are in the table, too, so no formula that is outside of the table can
    lead back into it, and a cell holds the number of a formula exactly if it holds this formula.
    """
    return find_rows(lambda name, state: run_free(system, formulas, name, state), known, free_start(system))


def run_free(system, formulas, name, state):
    """Return the state in which a program ends that is run alone in the free store with these formulas."""
    program = system.program_named(name)
    return do_program(program, system.cells, state, lambda function, given: formulas.number_of(function, given))
