"""Systems of programs, and machines that run the programs."""

from untoldrule.cells import check_names, check_size, check_state, is_value, list_states
from untoldrule.errors import InvalidSystem, InvalidTable, UnknownCell, UnknownProgram
from untoldrule.programs import Write
from untoldrule.steps import do_program, do_turns

MOST_PROGRAMS = 4


class System:
    """A few programs that work on the same cells."""

    def __init__(self, cells, programs):
        check_names(cells)
        self.cells = tuple(cells)
        self._programs = {}
        self._arities = {}
        for program in programs:
            self._take_program(program)
        self.names = tuple(self._programs)

    def _take_program(self, program):
        if len(self._programs) == MOST_PROGRAMS or program.name in self._programs:
            raise InvalidSystem(program.name)
        for step in program.steps:
            self._take_step(step)
        self._programs[program.name] = program

    def _take_step(self, step):
        for cell in step.reads() + step.writes():
            if cell not in self.cells:
                raise UnknownCell(cell)
        if isinstance(step, Write):
            self._take_function(step.function, len(step.arguments))

    def _take_function(self, function, number):
        if self._arities.setdefault(function, number) != number:
            raise InvalidSystem(function)

    def program_named(self, name):
        """Return the program with this name."""
        if name not in self._programs:
            raise UnknownProgram(name)
        return self._programs[name]

    def functions(self):
        """Return a list of pairs (function, number of arguments), in the order of first use."""
        return list(self._arities.items())

    def known(self, names):
        """Return the list of these names, or of all names for None, each once and in the order of the system."""
        if names is None:
            return list(self.names)
        self.check_programs(names)
        return [name for name in self.names if name in names]

    def check_programs(self, names):
        """Raise UnknownProgram for the first of these names that no program has."""
        for name in names:
            self.program_named(name)


class Machine:
    """A system, the size of its cells, and a table for each of its functions."""

    def __init__(self, system, size, tables):
        check_size(size)
        self.system = system
        self.size = size
        self._tables = {}
        for function, number in system.functions():
            self._tables[function] = copy_table(tables, function, number, size)
        # Whole programs are run again and again from the same few states, so each run is done once, here.
        self._ends = {name: self._list_ends(name) for name in system.names}

    def _list_ends(self, name):
        program = self.system.program_named(name)
        found = {}
        for state in self.list_starts():
            found[state] = do_program(
                program, self.system.cells, state, lambda function, given: self.apply(function, given)
            )
        return found

    def apply(self, function, args):
        """Return the value of a function for these arguments."""
        index = 0
        for value in args:
            index = index * self.size + value
        return self._tables[function][index]

    def __call__(self, name, state):
        """Return the state in which a program ends that is run alone on a state."""
        self.system.program_named(name)
        self.check_start(state)
        return self._ends[name][tuple(state)]

    def run(self, names, state):
        """Return the state in which these programs end, run alone one after another."""
        self.system.check_programs(names)
        self.check_start(state)
        found = tuple(state)
        for name in names:
            found = self._ends[name][found]
        return found

    def list_starts(self):
        """Return the list of all states, in ascending order."""
        return list_states(len(self.system.cells), self.size)

    def check_start(self, state):
        """Raise InvalidState if this is not a state of the machine."""
        check_state(self.system.cells, self.size, state)

    def follow(self, turns, start):
        """Return the list of the states before the first turn of a plan and after each turn."""
        return do_turns(turns, self.system.cells, start, lambda function, given: self.apply(function, given))


def copy_table(tables, function, number, size):
    """Return the table of a function with this number of arguments; raise InvalidTable if it is missing or wrong."""
    if function not in tables:
        raise InvalidTable(function)
    table = tuple(tables[function])
    # The arguments of a function are like a state of as many cells: there is an entry for each of them.
    if len(table) != len(list_states(number, size)):
        raise InvalidTable(function)
    if not all([is_value(entry, size) for entry in table]):
        raise InvalidTable(function)
    return table
