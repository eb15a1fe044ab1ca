"""What several files of tests share: short ways to make things, and a model that finds all answers by other ways."""

import itertools
import random

from untoldrule.errors import WeaveError
from untoldrule.plans import Plan, Weave
from untoldrule.programs import Program
from untoldrule.systems import Machine, System


def program(name, *lines):
    return Program.read("\n".join([f"program {name}", *lines]))


def plan_of(*lanes):
    plan = Plan.empty()
    for names in lanes:
        plan = plan | Plan.of(*names)
    return plan


def subsets(things):
    return [chosen for many in range(len(things) + 1) for chosen in itertools.combinations(things, many)]


def refused(test, call, kind, **fields):
    """The call raises just this error, with just these attributes; returns the cause of the error."""
    with test.assertRaises(WeaveError) as caught:
        call()
    test.assertEqual((caught.exception.__class__, vars(caught.exception)), (kind, fields))
    return caught.exception.__cause__


def apply_tree(function, args):
    """A formula is the name of a cell, its start value, or a function with the tuple of its arguments."""
    return (function, tuple(args))


class Model:
    """A machine and what it does, found by reading the lines of its programs and by trying all rows and rules."""

    def __init__(self, cells, programs, size, tables):
        self.cells, self.size, self.tables = cells, size, tables
        self.lines = {given.name: given.text().split("\n")[1:] for given in programs}
        self.names = [given.name for given in programs]
        self.system = System(cells, programs)
        self.machine = Machine(self.system, size, tables)
        self.starts = list(itertools.product(range(size), repeat=len(cells)))
        self.ends = {name: {start: self.alone(name, start) for start in self.starts} for name in self.names}
        self.tree_start = tuple(cells)

    def look_up(self, function, args):
        index = 0
        for value in args:
            index = self.size * index + value
        return self.tables[function][index]

    def step(self, line, state, variables, apply):
        words = line.split(" ")
        state = dict(zip(self.cells, state))
        if words[0] == "read":
            variables[words[3]] = state[words[1]]
            words = words[4:]
        if words:
            state[words[1]] = apply(words[3], [variables[local] for local in words[5:]])
        return tuple(state[name] for name in self.cells)

    def alone(self, name, state, apply=None):
        variables = {}
        for line in self.lines[name]:
            state = self.step(line, state, variables, apply or self.look_up)
        return state

    def passed(self, lanes, weaving, state, apply=None):
        waiting = []
        for names in lanes:
            lines = []
            for name in names:
                variables = {}
                lines.extend((line, variables) for line in self.lines[name])
            waiting.append(lines)
        found = [state]
        for lane in weaving:
            line, variables = waiting[lane].pop(0)
            found.append(self.step(line, found[-1], variables, apply or self.look_up))
        return found

    def row_end(self, row, state, apply=None):
        for name in row:
            state = self.alone(name, state, apply)
        return state

    def known(self, names):
        return [name for name in self.names if names is None or name in names]

    def rows(self, start, names):
        """Each state that some row leads to, with the first such row, in the order of the rows."""
        found = {}
        for length in range(len(self.starts)):
            for row in itertools.product(self.known(names), repeat=length):
                state = start
                for name in row:
                    state = self.ends[name][state]
                found.setdefault(state, row)
        return found

    def kept_rules(self, names):
        known = self.known(names)
        return [
            states
            for states in subsets(self.starts)
            if all(self.ends[name][state] in states for name in known for state in states)
        ]

    def tree_ends(self, lanes, weaving):
        """The formulas that the cells hold after the weaving, and all that it writes, each once, in their order."""
        written = []

        def note(function, args):
            tree = apply_tree(function, args)
            if tree not in written:
                written.append(tree)
            return tree

        end = self.passed(lanes, weaving, self.tree_start, note)[-1]
        return end, written

    def tree_row(self, lanes, weaving, names):
        """The least row that ends with the formulas of the weaving, or None, found without numbers of formulas.

        A formula that is no part of the end can only be overwritten, so all such formulas are taken for one.
        """
        end, _ = self.tree_ends(lanes, weaving)
        wanted = parts_of(end)
        rows = {self.tree_start: ()}
        waiting = [self.tree_start]
        while waiting:
            state = waiting.pop(0)
            for name in self.known(names):
                after = self.alone(name, state, apply_tree)
                after = tuple(tree if tree in wanted else "no part" for tree in after)
                if after not in rows:
                    rows[after] = (*rows[state], name)
                    waiting.append(after)
        return rows.get(end)


def parts_of(trees):
    found = set()
    waiting = list(trees)
    while waiting:
        tree = waiting.pop()
        found.add(tree)
        if isinstance(tree, tuple):
            waiting.extend(tree[1])
    return found


EXAMPLE = [
    program("flip", "read x as a write x by f of a", "read y as b write y by f of b"),
    program("mark", "read x as a write x by g of a", "read y as b write y by g of b"),
]
UP = {"up": (1, 2, 0), "sum": (0, 1, 2, 1, 2, 0, 2, 0, 1), "zero": (0,)}
LINES = [
    "read x as a",
    "read y as b",
    "write y by one of a",
    "write x by one of b",
    "write x by two of a b",
    "write y by two of b a",
    "read x as a write x by one of a",
    "read y as b write y by one of b",
    "read y as b write x by nil",
    "write y by nil",
]


def random_program(name, chance):
    while True:
        lines = chance.choices(LINES, k=chance.randrange(4))
        try:
            return program(name, *lines)
        except WeaveError:
            continue


def random_model(seed):
    chance = random.Random(seed)
    programs = [random_program(name, chance) for name in "qpr"[: chance.choice((1, 2, 2, 2, 3))]]
    tables = {name: chance.choices((0, 1), k=many) for name, many in (("nil", 1), ("one", 2), ("two", 4))}
    return Model(["x", "y"], programs, 2, tables)


RANDOM_MODELS = [random_model(seed) for seed in range(40)]

# Models with the lanes of a few plans.
MODELS = [
    (Model(["x", "y"], EXAMPLE, 2, {"f": (1, 0), "g": (1, 1)}), [[["flip"], ["mark"]], [["flip", "mark"], ["mark"]]]),
    (Model(["x", "y"], EXAMPLE, 2, {"f": (1, 0), "g": (1, 0)}), [[["flip"], ["mark"]], [["mark"], ["mark"], []]]),
    (
        Model(
            ["x", "y"],
            [
                program("b", "read x as a write x by up of a"),
                program("a", "read x as a", "read y as b", "write y by sum of a b"),
            ],
            3,
            UP,
        ),
        [[["a"], ["b"]], [["a", "a"], ["b"]], [[], []]],
    ),
    (
        Model(
            ["z", "x", "y"],
            [
                program("p", "read x as a write z by f of a", "read z as a write y by f of a"),
                program("q", "write x by g"),
            ],
            2,
            {"f": (1, 0), "g": (1,)},
        ),
        [[["p"], ["q"]], [["q", "p"], ["p"]]],
    ),
    (Model(["x"], [], 3, {}), [[], [[]]]),
    *[(model, [[model.names[:1], model.names[:1]], [model.names[-1:], model.names[:1]]]) for model in RANDOM_MODELS],
]


def woven():
    """Each model with each of its plans and each weaving of it."""
    for model, plans in MODELS:
        for lanes in plans:
            plan = plan_of(*lanes)
            for weaving in Weave(model.system, plan).walk():
                yield model, lanes, plan, weaving


def choices_of_names(model):
    return [None, *subsets(model.names)]
