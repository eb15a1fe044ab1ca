"""Programs and their steps, read from text."""

from untoldrule.errors import InvalidProgram
from untoldrule.names import is_name

MOST_STEPS = 4
MOST_ARGUMENTS = 3


def read_text(source, local):
    """Return the words of a read."""
    return f"read {source} as {local}"


def write_text(target, function, arguments):
    """Return the words of a write."""
    words = ["write", target, "by", function]
    if arguments:
        words.append("of")
        words.extend(arguments)
    return " ".join(words)


class Read:
    """A step that copies the value of a cell into a local variable."""

    def __init__(self, source, local):
        self.source = source
        self.local = local

    def text(self):
        """Return the line of the step."""
        return read_text(self.source, self.local)

    def reads(self):
        """Return a tuple with the name of the cell that the step reads."""
        return (self.source,)

    def writes(self):
        """Return an empty tuple, as the step writes no cell."""
        return ()


class Write:
    """A step that writes the value of a function of local variables to a cell."""

    def __init__(self, target, function, arguments):
        self.target = target
        self.function = function
        self.arguments = tuple(arguments)

    def text(self):
        """Return the line of the step."""
        return write_text(self.target, self.function, self.arguments)

    def reads(self):
        """Return an empty tuple, as the step reads no cell."""
        return ()

    def writes(self):
        """Return a tuple with the name of the cell that the step writes."""
        return (self.target,)


class ReadWrite(Read, Write):
    """A step that first reads and then writes."""

    def __init__(self, source, local, target, function, arguments):
        Read.__init__(self, source, local)
        Write.__init__(self, target, function, arguments)

    def text(self):
        """Return the line of the step."""
        first = read_text(self.source, self.local)
        second = write_text(self.target, self.function, self.arguments)
        return f"{first} {second}"

    def reads(self):
        """Return a tuple with the name of the cell that the step reads."""
        return (self.source,)

    def writes(self):
        """Return a tuple with the name of the cell that the step writes."""
        return (self.target,)


class Program:
    """A name and a few steps."""

    def __init__(self, name, steps):
        self.name = name
        self.steps = tuple(steps)

    @classmethod
    def read(cls, text):
        """Return the program with this text."""
        lines = text.split("\n")
        return cls(parse_header(lines[0]), parse_steps(lines[1:]))

    def text(self):
        """Return the text of the program."""
        lines = [f"program {self.name}"]
        for step in self.steps:
            lines.append(step.text())
        return "\n".join(lines)


def parse_header(line):
    """Return the name of the program that has this first line."""
    words = line.split(" ")
    if len(words) != 2 or words[0] != "program" or not is_name(words[1]):
        raise InvalidProgram(1)
    return words[1]


def parse_steps(lines):
    """Return the list of the steps of a program that has these lines after its first one."""
    steps = []
    known = []
    for number, line in enumerate(lines, start=2):
        step = parse_step(line, known)
        if step is None or len(steps) == MOST_STEPS:
            raise InvalidProgram(number)
        steps.append(step)
        if isinstance(step, Read):
            known.append(step.local)
    return steps


def parse_step(line, known):
    """Return the step with this line, or None if the line is wrong; known are the variables read before."""
    # Only the position of a word decides what it means, so all the words of a line are matched at once.
    match line.split(" "):
        case ["read", source, "as", local]:
            return make_read(source, local)
        case ["write", target, "by", function, *rest]:
            return make_write(target, function, rest, known)
        case ["read", source, "as", local, "write", target, "by", function, *rest]:
            return make_both(make_read(source, local), make_write(target, function, rest, [*known, local]))
        case _:
            return None


def make_read(source, local):
    """Return the read of a cell into a variable, or None if one of the names is wrong."""
    if not is_name(source) or not is_name(local):
        return None
    return Read(source, local)


def make_write(target, function, rest, known):
    """Return the write of a function whose name is followed by the words in rest, or None if it is wrong."""
    if not is_name(target) or not is_name(function) or not is_argument_part(rest, known):
        return None
    return Write(target, function, rest[1:])


def make_both(first, second):
    """Return the step that does a read and then a write, or None if one of them is None."""
    if first is None or second is None:
        return None
    return ReadWrite(first.source, first.local, second.target, second.function, second.arguments)


def is_argument_part(words, known):
    """Tell whether these words may follow the name of a function: none at all, or of and known variables."""
    if not words:
        return True
    if words[0] != "of" or not 2 <= len(words) <= MOST_ARGUMENTS + 1:
        return False
    return all([word in known for word in words[1:]])
