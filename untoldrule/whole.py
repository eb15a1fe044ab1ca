"""Whole programs, the rules that they keep, and the weavings that break a rule."""

from untoldrule.plans import Weave


class Rule:
    """A set of states."""

    def __init__(self, states):
        self._states = put_in_order(states)
        self._known = {state: True for state in self._states}

    def __iter__(self):
        return iter(self._states)

    def __len__(self):
        return len(self._states)

    def __contains__(self, x):
        return x in self._known

    def __le__(self, other):
        return all([state in other._known for state in self._states])

    def __and__(self, other):
        return Rule([state for state in self._states if state in other._known])


def put_in_order(states):
    """Return the list of these states in ascending order, each of them once."""
    found = []
    for state in states:
        at = count_before(found, state)
        if at == len(found) or found[at] != state:
            found.insert(at, state)
    return found


def count_before(ordered, state):
    """Return how many of these states, which are in ascending order, come before this state."""
    low = 0
    high = len(ordered)
    while low < high:
        middle = (low + high) // 2
        if ordered[middle] < state:
            low = middle + 1
        else:
            high = middle
    return low


def find_rows(run_alone, known, start):
    """Return a dict from each state of the least rule of a start to its least row, the least row first.

    The call run_alone(name, state) gives the state in which a program ends. The rows get longer one by one, in their
    order, so the first row that leads to a state is its least row, and it is a least row with one more program.
    """
    rows = {start: ()}
    newest = [start]
    while newest:
        reached = []
        # A copy is walked, as the list that is filled meanwhile is the one that is newest next.
        for state in list(newest):
            for name in known:
                end = run_alone(name, state)
                if end not in rows:
                    rows[end] = (*rows[state], name)
                    reached.append(end)
        newest = reached
    return rows


def rows_from(machine, start, names=None):
    """Return a list of pairs (state, least row), one for each state of the least rule of the start."""
    known = machine.system.known(names)
    machine.check_start(start)
    return list(find_rows(machine, known, tuple(start)).items())


def least_rule(machine, start, names=None):
    """Return the least rule of the start."""
    return Rule([state for state, _ in rows_from(machine, start, names)])


def first_break(machine, rule, names=None):
    """Return the first pair (state, name) with which a known program leads out of the rule, or None."""
    known = machine.system.known(names)
    check_rule(machine, rule)
    for state in rule:
        for name in known:
            if machine(name, state) not in rule:
                return (state, name)
    return None


def trace(machine, plan, weaving, state):
    """Return the list of the states before the first step of the weaving and after each step."""
    turns = list_weaving(machine.system, plan, weaving)
    machine.check_start(state)
    return machine.follow(turns, tuple(state))


def end_state(machine, plan, weaving, state):
    """Return the state in which the weaving ends."""
    return trace(machine, plan, weaving, state)[-1]


def least_rows(machine, plan, weaving, names=None):
    """Return, for each start, the least row that leads to the end of the weaving, or None if there is none."""
    turns = list_weaving(machine.system, plan, weaving)
    known = machine.system.known(names)
    found = []
    for start in machine.list_starts():
        end = machine.follow(turns, start)[-1]
        found.append(find_rows(machine, known, start).get(end))
    return found


class Breach:
    """A start at which a weaving breaks the least rule of the start."""

    def __init__(self, start, end, rule, step):
        self.start = start
        self.end = end
        self.rule = rule
        self.step = step


def breach(machine, plan, weaving, names=None):
    """Return the breach at the first start at which the weaving breaks the least rule, or None."""
    turns = list_weaving(machine.system, plan, weaving)
    known = machine.system.known(names)
    for start in machine.list_starts():
        passed = machine.follow(turns, start)
        rows = find_rows(machine, known, start)
        if passed[-1] not in rows:
            rule = Rule(list(rows))
            return Breach(start, passed[-1], rule, find_breaking_step(passed, rule))
    return None


def broken_at(machine, plan, weaving, rule):
    """Return the first state of the rule at which the weaving breaks it, or None."""
    turns = list_weaving(machine.system, plan, weaving)
    check_rule(machine, rule)
    for start in rule:
        if machine.follow(turns, start)[-1] not in rule:
            return start
    return None


def list_weaving(system, plan, weaving):
    """Return the list of the turns of a weaving of a plan."""
    return Weave(system, plan).take_weaving(weaving)


def check_rule(machine, rule):
    """Raise InvalidState for the first state of the rule that is not a state of the machine."""
    for state in rule:
        machine.check_start(state)


def find_breaking_step(passed, rule):
    """Return the index of the last step that leads out of the rule, or None; passed are the states around the steps."""
    found = None
    for position in range(len(passed) - 1):
        if passed[position] in rule and passed[position + 1] not in rule:
            found = position
    return found
