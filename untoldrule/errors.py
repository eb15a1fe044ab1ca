"""All errors of the program."""


class WeaveError(ValueError):
    """The base class of all errors of the program."""


class InvalidCells(WeaveError):
    """The names or the size of the cells are wrong."""

    def __init__(self):
        super().__init__("cells need 1 to 3 different names and a size from 1 to 3")


class UnknownCell(WeaveError):
    """There is no cell with this name."""

    def __init__(self, cell):
        super().__init__(f"there is no cell {cell}")
        self.cell = cell


class OutOfRange(WeaveError):
    """A cell cannot hold this value."""

    def __init__(self, cell, value):
        super().__init__(f"cell {cell} cannot hold {value}")
        self.cell = cell
        self.value = value


class InvalidState(WeaveError):
    """A state has the wrong number of items (cell is None) or an item that its cell cannot hold."""

    def __init__(self, cell):
        super().__init__(f"the state is wrong at cell {cell}")
        self.cell = cell


class InvalidProgram(WeaveError):
    """This line of the text of a program, counted from 1, is wrong."""

    def __init__(self, line):
        super().__init__(f"line {line} of the program is wrong")
        self.line = line


class InvalidSystem(WeaveError):
    """A program or a function, given by its name, does not fit into the system."""

    def __init__(self, name):
        super().__init__(f"{name} does not fit into the system")
        self.name = name


class UnknownProgram(WeaveError):
    """There is no program with this name."""

    def __init__(self, name):
        super().__init__(f"there is no program {name}")
        self.name = name


class InvalidTable(WeaveError):
    """The table of this function is missing or wrong."""

    def __init__(self, function):
        super().__init__(f"the table of {function} is missing or wrong")
        self.function = function


class InvalidPlan(WeaveError):
    """Two plans cannot be put together, or a plan is too large."""

    def __init__(self):
        super().__init__("there is no such plan")


class TooManySteps(WeaveError):
    """The lanes of a plan have too many steps together."""

    def __init__(self, number):
        super().__init__(f"{number} steps are too many")
        self.number = number


class InvalidWeaving(WeaveError):
    """A sequence stops being a weaving, or its beginning, at this position."""

    def __init__(self, position):
        super().__init__(f"the weaving is wrong at position {position}")
        self.position = position


class InvalidPlaces(WeaveError):
    """This pair is not a place of the plan."""

    def __init__(self, place):
        super().__init__(f"{place} is not a place")
        self.place = place


class NoWeaving(WeaveError):
    """There is no weaving at this position."""

    def __init__(self, position):
        super().__init__(f"there is no weaving at position {position}")
        self.position = position


class UnknownFormula(WeaveError):
    """No formula has this number."""

    def __init__(self, number):
        super().__init__(f"there is no formula {number}")
        self.number = number


class NotKept(WeaveError):
    """This program, run alone on this start, leads out of the rule."""

    def __init__(self, start, program):
        super().__init__(f"program {program} leads out of the rule from {start}")
        self.start = start
        self.program = program


class Refused(WeaveError):
    """This lane may not go next at this position."""

    def __init__(self, lane, position):
        super().__init__(f"lane {lane} may not go next at position {position}")
        self.lane = lane
        self.position = position
