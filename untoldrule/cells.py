"""Cells, their values, and the states that they can be in."""

from untoldrule.errors import InvalidCells, InvalidState, OutOfRange, UnknownCell
from untoldrule.names import is_name

MOST_CELLS = 3
MOST_SIZE = 3
FIELD = 9


def check_names(names):
    """Raise InvalidCells if these cannot be the names of the cells."""
    if not 1 <= len(names) <= MOST_CELLS:
        raise InvalidCells()
    if not all([is_name(name) for name in names]):
        raise InvalidCells()
    if len(set(names)) < len(names):
        raise InvalidCells()


def check_size(size):
    """Raise InvalidCells if this cannot be the size of the cells."""
    if not 1 <= size <= MOST_SIZE:
        raise InvalidCells()


def is_value(value, size):
    """Tell whether a cell of this size can hold the value."""
    return 0 <= value < size


def check_state(names, size, state):
    """Raise InvalidState if this is not a state of cells with these names and this size."""
    if len(state) != len(names):
        raise InvalidState(None)
    for name, value in zip(names, state):
        if not is_value(value, size):
            raise InvalidState(name) from OutOfRange(name, value)


def list_states(number, size):
    """Return the list of all states of so many cells of this size, in ascending order."""
    found = [()]
    for _ in range(number):
        found = [(*state, value) for state in found for value in range(size)]
    return found


class Trial:
    """A block in which cells may be changed, and after which they are as they were before."""

    def __init__(self, cells):
        self._cells = cells
        self._before = ()

    def __enter__(self):
        self._before = self._cells.contents
        return self._cells

    def __exit__(self, kind, value, trace):
        cells = self._cells
        cells._held = self._before


class Cells:
    """A few cells of the same size, with their current values."""

    def __init__(self, names, size):
        check_names(names)
        check_size(size)
        self.names = tuple(names)
        self.size = size
        # The state is a tuple that is only ever replaced, so a trial can give it back as it was.
        self._held = (0,) * len(self.names)

    def __iter__(self):
        return iter(self.names)

    def __getitem__(self, at):
        return self._held[self._position(at)]

    def __setitem__(self, at, worth):
        position = self._position(at)
        if not is_value(worth, self.size):
            raise OutOfRange(at, worth)
        held = list(self._held)
        held[position] = worth
        self._held = tuple(held)

    def _position(self, name):
        if name not in self.names:
            raise UnknownCell(name)
        return self.names.index(name)

    def change(self, name, value):
        """Assign a value to the cell with this name."""
        self[name] = value

    @property
    def contents(self):
        """The current state."""
        return self._held

    @contents.setter
    def contents(self, value):
        check_state(self.names, self.size, value)
        self._held = tuple(value)

    def reset(self, state):
        """Assign all cells at once."""
        self.contents = state

    def states(self):
        """Yield all states, in ascending order."""
        yield from list_states(len(self.names), self.size)

    def rank(self, state):
        """Return the position of a state among all states, in ascending order."""
        check_state(self.names, self.size, state)
        position = 0
        for value in state:
            position = position * self.size + value
        return position

    def trial(self):
        """Return a trial of these cells, for one with statement."""
        return Trial(self)

    def peek(self, changes):
        """Return the state that assigning the pairs (name, value) would lead to."""
        with self.trial():
            for name, value in changes:
                self[name] = value
            return self.contents


def columns(names, states):
    """Return a line with the names and a line for each state, in fields of equal width."""
    return [field_line(row) for row in [names, *states]]


def field_line(items):
    """Return the line with these items, each right-aligned in its field."""
    return "".join([str(item).rjust(FIELD) for item in items])
