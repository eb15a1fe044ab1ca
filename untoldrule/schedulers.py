"""Schedulers, which decide by what they know which weavings of a plan they let through."""

from untoldrule.errors import NotKept
from untoldrule.formulas import Formulas, find_same_row, follow_formulas
from untoldrule.plans import Weave
from untoldrule.whole import first_break, least_rule


class SerialScheduler:
    """Lets the weavings through that execute whole programs one after another."""

    def __init__(self, system, plan):
        self.weave = Weave(system, plan)
        self._decided = {}

    def lets(self, weaving):
        """Tell whether the scheduler lets a weaving through."""
        return not self.weave.opened(weaving)

    def decide(self):
        """Return a dict from each weaving, in ascending order, to whether it is let through."""
        # A scheduler never changes, and every plan has a weaving, so each weaving is decided once.
        if not self._decided:
            weavings = list(self.weave.walk())
            self._decided = {weaving: self.lets(weaving) for weaving in weavings}
        return self._decided


class NamesScheduler(SerialScheduler):
    """Lets the weavings through that are right whatever the functions compute."""

    def __init__(self, system, plan, *, woven_only=False):
        super().__init__(system, plan)
        self._system = system
        self._names = system.known(list_woven(plan) if woven_only else None)
        self._formulas = Formulas(len(system.cells))
        self._right = {}

    def lets(self, weaving):
        """Tell whether the scheduler lets a weaving through."""
        turns = self.weave.take_weaving(weaving)
        # Weavings that end with the same formulas are all let through or all refused, and there are many of them.
        end = follow_formulas(self._system, turns, self._formulas)[-1]
        if end not in self._right:
            self._right[end] = find_same_row(self._system, turns, self._names) is not None
        return self._right[end]


class TablesScheduler(NamesScheduler):
    """Lets the weavings through that are right for the tables of a machine."""

    def __init__(self, machine, plan, *, woven_only=False):
        super().__init__(machine.system, plan, woven_only=woven_only)
        self._machine = machine
        self._least = {}

    def lets(self, weaving):
        """Tell whether the scheduler lets a weaving through."""
        turns = self.weave.take_weaving(weaving)
        for start in self._machine.list_starts():
            if self._machine.follow(turns, start)[-1] not in self._least_rule_of(start):
                return False
        return True

    def _least_rule_of(self, start):
        if start not in self._least:
            self._least[start] = least_rule(self._machine, start, self._names)
        return self._least[start]


class RuleScheduler(TablesScheduler):
    """Lets the weavings through that do not break one rule, which all known programs keep."""

    def __init__(self, machine, plan, rule, *, woven_only=False):
        super().__init__(machine, plan, woven_only=woven_only)
        found = first_break(machine, rule, self._names)
        if found is not None:
            start, program = found
            raise NotKept(start, program)
        self._rule = rule

    def lets(self, weaving):
        """Tell whether the scheduler lets a weaving through."""
        turns = self.weave.take_weaving(weaving)
        for start in self._rule:
            if self._machine.follow(turns, start)[-1] not in self._rule:
                return False
        return True


def list_woven(plan):
    """Return the list of the names that occur in a plan."""
    return [name for names in plan.lanes for name in names]


def let_weavings(scheduler):
    """Yield the weavings that the scheduler lets through, in ascending order."""
    for weaving, through in scheduler.decide().items():
        if through:
            yield weaving


def completions(scheduler, beginning=()):
    """Return the number of the weavings that the scheduler lets through and that start with the beginning."""
    scheduler.weave.check_beginning(beginning)
    return count_let(scheduler, tuple(beginning))


def next_lanes(scheduler, beginning=()):
    """Return the tuple of the lanes that may go next, in ascending order."""
    scheduler.weave.check_beginning(beginning)
    lanes = list(range(len(scheduler.weave.lengths)))
    return tuple([lane for lane in lanes if count_let(scheduler, (*beginning, lane)) > 0])


def count_let(scheduler, items):
    """Return how many weavings the scheduler lets through whose first items are those of this tuple."""
    return len([weaving for weaving in let_weavings(scheduler) if weaving[:len(items)] == items])


def compare(first, second):
    """Return the first weaving that only the first scheduler lets through, and the first that only the second does."""
    return (first_difference(first, second), first_difference(second, first))


def first_difference(first, second):
    """Return the first weaving that the first scheduler lets through and the second one does not, or None."""
    decided = second.decide()
    for weaving in let_weavings(first):
        if not decided[weaving]:
            return weaving
    return None


def first_fault(scheduler, places=None):
    """Return the first weaving within the places that the scheduler does not let through, or None."""
    decided = scheduler.decide()
    for weaving in scheduler.weave.walk(places):
        if not decided[weaving]:
            return weaving
    return None


def greatest_lots(scheduler):
    """Return the list of the greatest lots."""
    found = []
    # A lot that is part of a larger safe lot is part of a greatest one, which comes before it here.
    for lot in list_lots(scheduler.weave.places()):
        if not is_part_of_one(lot, found) and first_fault(scheduler, lot) is None:
            found.append(lot)
    return found


def list_lots(places):
    """Return the list of all lots; larger ones come first, and those of the same size are in ascending order."""
    found = []
    layer = [()]
    while layer:
        found = [*layer, *found]
        layer = [(*lot, place) for lot in layer for place in places if not lot or lot[-1] < place]
    return found


def is_part_of_one(lot, others):
    """Tell whether all places of a lot are contained in one of the other lots."""
    return any([all([place in other for place in lot]) for other in others])
