"""Points 2 to 6: cells, states, trials and columns."""

import itertools
import types
import unittest

from untoldrule.cells import Cells, columns
from untoldrule.errors import InvalidCells, InvalidState, OutOfRange, UnknownCell

ALPHABET = "abcdefghijklmnopqrstuvwxyz"
WRONG_NAMES = ["", "abcdefghi", "A", "aB", "x1", "1", "x_y", "_", "x y", " x", "x ", "x\n", "x-y", "\u00e9", "\u0430"]
NAMES = ["x", "y", "z"]


class NamesTest(unittest.TestCase):
    def test_each_letter_is_a_name(self):
        for letter in ALPHABET:
            with self.subTest(letter=letter):
                self.assertEqual(Cells([letter], 1).names, (letter,))

    def test_names_of_one_and_of_eight_letters(self):
        self.assertEqual(Cells(["a", "abcdefgh", "zzzzzzz"], 2).names, ("a", "abcdefgh", "zzzzzzz"))

    def test_wrong_name_at_each_place(self):
        for name in WRONG_NAMES:
            for names in ([name], [name, "y", "z"], ["x", name, "z"], ["x", "y", name]):
                with self.subTest(names=names), self.assertRaises(InvalidCells):
                    Cells(names, 2)

    def test_every_character_that_is_no_letter_is_wrong(self):
        for code in [*range(0, 97), *range(123, 400), 0x2028, 0xFF41, 0x1D44E]:
            with self.subTest(code=code), self.assertRaises(InvalidCells):
                Cells([f"a{chr(code)}"], 2)


class NewCellsTest(unittest.TestCase):
    def test_one_to_three_names_and_sizes(self):
        for many, size in itertools.product((1, 2, 3), (1, 2, 3)):
            with self.subTest(many=many, size=size):
                cells = Cells(NAMES[:many], size)
                self.assertEqual(cells.names, tuple(NAMES[:many]))
                self.assertIs(type(cells.names), tuple)
                self.assertEqual(cells.size, size)

    def test_names_may_be_a_tuple(self):
        self.assertEqual(Cells(("y", "x"), 2).names, ("y", "x"))

    def test_no_names_and_four_names_are_wrong(self):
        for names in ([], (), ["a", "b", "c", "d"]):
            with self.subTest(names=names), self.assertRaises(InvalidCells):
                Cells(names, 2)

    def test_equal_names_are_wrong(self):
        for names in (["x", "x"], ["x", "y", "x"], ["x", "x", "y"], ["y", "x", "x"], ["x", "x", "x"]):
            with self.subTest(names=names), self.assertRaises(InvalidCells):
                Cells(names, 2)

    def test_wrong_sizes(self):
        for size in (-1, 0, 4, 5, 100):
            with self.subTest(size=size), self.assertRaises(InvalidCells):
                Cells(["x"], size)

    def test_all_cells_hold_zero_at_first(self):
        for many in (1, 2, 3):
            with self.subTest(many=many):
                cells = Cells(NAMES[:many], 3)
                self.assertEqual(cells.contents, (0,) * many)
                self.assertEqual([cells[name] for name in NAMES[:many]], [0] * many)

    def test_iteration_gives_the_names_in_order(self):
        cells = Cells(["z", "x", "y"], 1)
        self.assertEqual(list(cells), ["z", "x", "y"])
        self.assertEqual(list(cells), ["z", "x", "y"])

    def test_the_names_are_copied(self):
        names = ["x", "y"]
        cells = Cells(names, 2)
        self.assertEqual(names, ["x", "y"])
        names[0] = "z"
        names.append("w")
        self.assertEqual(cells.names, ("x", "y"))
        self.assertEqual(list(cells), ["x", "y"])
        self.assertEqual(cells["x"], 0)

    def test_two_objects_share_nothing(self):
        first, second = Cells(NAMES, 2), Cells(NAMES, 2)
        first["x"] = 1
        self.assertEqual(second.contents, (0, 0, 0))


class StatesTest(unittest.TestCase):
    def test_states_of_two_cells(self):
        cells = Cells(["x", "y"], 2)
        self.assertEqual(list(cells.states()), [(0, 0), (0, 1), (1, 0), (1, 1)])

    def test_all_states_in_ascending_order_as_tuples(self):
        for many, size in itertools.product((1, 2, 3), (1, 2, 3)):
            with self.subTest(many=many, size=size):
                states = list(Cells(NAMES[:many], size).states())
                self.assertEqual(states, list(itertools.product(range(size), repeat=many)))
                self.assertEqual({type(state) for state in states}, {tuple})

    def test_states_is_a_generator_that_changes_no_cell(self):
        cells = Cells(["x", "y"], 2)
        cells["y"] = 1
        self.assertIsInstance(cells.states(), types.GeneratorType)
        self.assertEqual(len(list(cells.states())), 4)
        self.assertEqual(cells.contents, (0, 1))

    def test_rank_of_each_state_as_tuple_and_as_list(self):
        for many, size in itertools.product((1, 2, 3), (1, 2, 3)):
            cells = Cells(NAMES[:many], size)
            for position, state in enumerate(itertools.product(range(size), repeat=many)):
                with self.subTest(state=state, size=size):
                    self.assertEqual(cells.rank(state), position)
                    self.assertEqual(cells.rank(list(state)), position)

    def test_rank_changes_neither_the_cells_nor_the_state(self):
        cells = Cells(["x", "y"], 3)
        cells.contents = (2, 1)
        state = [1, 2]
        self.assertEqual(cells.rank(state), 5)
        self.assertEqual(state, [1, 2])
        self.assertEqual(cells.contents, (2, 1))


def assign_contents(cells, state):
    cells.contents = state


TAKERS = {
    "rank": lambda cells, state: cells.rank(state),
    "reset": lambda cells, state: cells.reset(state),
    "contents": assign_contents,
}


class InvalidStateTest(unittest.TestCase):
    def refused(self, take, cells, state):
        before = cells.contents
        with self.assertRaises(InvalidState) as caught:
            take(cells, state)
        self.assertEqual(cells.contents, before)
        return caught.exception

    def test_wrong_number_of_items(self):
        for (name, take), many in itertools.product(TAKERS.items(), (1, 2, 3)):
            cells = Cells(NAMES[:many], 2)
            cells.contents = (1,) * many
            for length in {0, 1, 2, 3, 4, 5} - {many}:
                for kind in (tuple, list):
                    with self.subTest(call=name, many=many, length=length, kind=kind):
                        error = self.refused(take, cells, kind([0] * length))
                        self.assertIsNone(error.cell)
                        self.assertIsNone(error.__cause__)

    def test_wrong_number_of_items_comes_ahead_of_a_wrong_item(self):
        for name, take in TAKERS.items():
            for state in ((7,), (0, 7, 0), (-1, -1, -1)):
                with self.subTest(call=name, state=state):
                    error = self.refused(take, Cells(["x", "y"], 2), state)
                    self.assertIsNone(error.cell)
                    self.assertIsNone(error.__cause__)

    def test_first_wrong_item_at_each_place(self):
        for (name, take), size, wrong in itertools.product(TAKERS.items(), (1, 2, 3), ("below", "size", "above")):
            item = {"below": -1, "size": size, "above": 99}[wrong]
            for at, kind in itertools.product(range(3), (tuple, list)):
                # All items behind the first wrong one are wrong as well, with another value.
                state = kind([size - 1] * at + [item] + [-5] * (2 - at))
                with self.subTest(call=name, state=state, size=size):
                    cells = Cells(NAMES, size)
                    cells.contents = [size - 1] * 3
                    error = self.refused(take, cells, state)
                    self.assertEqual(error.cell, NAMES[at])
                    self.assertIs(type(error.__cause__), OutOfRange)
                    self.assertEqual(error.__cause__.cell, NAMES[at])
                    self.assertEqual(error.__cause__.value, item)

    def test_the_state_is_not_modified(self):
        for name, take in TAKERS.items():
            with self.subTest(call=name):
                state = [0, 2]
                self.refused(take, Cells(["x", "y"], 2), state)
                self.assertEqual(state, [0, 2])


class ValuesTest(unittest.TestCase):
    def test_reading_and_assigning_each_cell_by_its_name(self):
        cells = Cells(NAMES, 3)
        cells["x"] = 2
        self.assertEqual(cells.contents, (2, 0, 0))
        cells["z"] = 1
        self.assertEqual(cells.contents, (2, 0, 1))
        cells["y"] = 2
        self.assertEqual(cells.contents, (2, 2, 1))
        self.assertEqual((cells["x"], cells["y"], cells["z"]), (2, 2, 1))
        cells["x"] = 0
        self.assertEqual(cells.contents, (0, 2, 1))

    def test_change_does_the_same_and_returns_none(self):
        cells = Cells(NAMES, 3)
        self.assertIsNone(cells.change("y", 2))
        self.assertEqual(cells["y"], 2)
        self.assertEqual(cells.contents, (0, 2, 0))

    def test_every_value_of_each_size_can_be_assigned(self):
        for size in (1, 2, 3):
            cells = Cells(["x"], size)
            for value in range(size):
                cells["x"] = value
                self.assertEqual(cells["x"], value)
                cells.change("x", value)
                self.assertEqual(cells["x"], value)

    def test_reading_an_unknown_cell(self):
        cells = Cells(["x", "y"], 2)
        for name in ("z", "", "xy", "X"):
            with self.subTest(name=name), self.assertRaises(UnknownCell) as caught:
                cells[name]
            self.assertEqual(caught.exception.cell, name)

    def test_assigning_to_an_unknown_cell_comes_ahead_of_a_wrong_value(self):
        for value in (0, -1, 2, 99):
            for assign in (Cells.__setitem__, Cells.change):
                cells = Cells(["x", "y"], 2)
                cells.contents = (1, 0)
                with self.subTest(value=value, assign=assign), self.assertRaises(UnknownCell) as caught:
                    assign(cells, "z", value)
                self.assertEqual(caught.exception.cell, "z")
                self.assertEqual(cells.contents, (1, 0))

    def test_assigning_a_wrong_value(self):
        for size in (1, 2, 3):
            for value in (-2, -1, size, size + 1):
                for assign in (Cells.__setitem__, Cells.change):
                    cells = Cells(["x", "y"], size)
                    cells.contents = (0, size - 1)
                    with self.subTest(size=size, value=value, assign=assign), self.assertRaises(OutOfRange) as caught:
                        assign(cells, "y", value)
                    self.assertEqual((caught.exception.cell, caught.exception.value), ("y", value))
                    self.assertEqual(cells.contents, (0, size - 1))

    def test_contents_is_a_property_and_a_tuple(self):
        self.assertIsInstance(Cells.contents, property)
        cells = Cells(["x", "y"], 3)
        cells.contents = [1, 2]
        self.assertEqual(cells.contents, (1, 2))
        self.assertIs(type(cells.contents), tuple)
        cells.contents = (2, 0)
        self.assertEqual((cells["x"], cells["y"]), (2, 0))
        self.assertEqual(cells.contents, (2, 0))

    def test_contents_is_the_state_of_its_moment(self):
        cells = Cells(["x", "y"], 3)
        before = cells.contents
        cells["x"] = 2
        self.assertEqual(before, (0, 0))

    def test_reset_does_the_same_and_returns_none(self):
        cells = Cells(["x", "y"], 3)
        self.assertIsNone(cells.reset((1, 2)))
        self.assertEqual(cells.contents, (1, 2))
        self.assertIsNone(cells.reset([2, 1]))
        self.assertEqual(cells.contents, (2, 1))
        self.assertIs(type(cells.contents), tuple)

    def test_the_assigned_state_is_copied(self):
        cells = Cells(["x", "y"], 3)
        for take in (assign_contents, Cells.reset):
            state = [1, 2]
            take(cells, state)
            self.assertEqual(state, [1, 2])
            state[0] = 0
            self.assertEqual(cells.contents, (1, 2))
            cells["x"] = 2
            self.assertEqual(state, [0, 2])


class Failure(Exception):
    pass


class TrialTest(unittest.TestCase):
    def setUp(self):
        self.cells = Cells(NAMES, 3)
        self.cells.contents = (0, 1, 2)

    def test_left_in_the_ordinary_way(self):
        with self.cells.trial() as held:
            self.assertIs(held, self.cells)
            self.assertEqual(self.cells.contents, (0, 1, 2))
            held["x"] = 2
            self.cells.change("y", 0)
            self.assertEqual(self.cells.contents, (2, 0, 2))
        self.assertEqual(self.cells.contents, (0, 1, 2))
        self.assertEqual(self.cells["x"], 0)

    def test_all_ways_of_changing_are_taken_back(self):
        with self.cells.trial():
            self.cells.contents = (2, 2, 2)
        self.assertEqual(self.cells.contents, (0, 1, 2))
        with self.cells.trial():
            self.cells.reset((1, 1, 1))
        self.assertEqual(self.cells.contents, (0, 1, 2))

    def test_left_by_an_error_which_is_not_caught(self):
        failure = Failure()
        with self.assertRaises(Failure) as caught:
            with self.cells.trial():
                self.cells["z"] = 0
                raise failure
        self.assertIs(caught.exception, failure)
        self.assertEqual(self.cells.contents, (0, 1, 2))

    def test_left_by_an_error_of_the_cells(self):
        with self.assertRaises(OutOfRange):
            with self.cells.trial():
                self.cells["z"] = 0
                self.cells["x"] = 3
        self.assertEqual(self.cells.contents, (0, 1, 2))

    def test_left_by_return(self):
        def leave():
            with self.cells.trial() as held:
                held["x"] = 1
                return held.contents

        self.assertEqual(leave(), (1, 1, 2))
        self.assertEqual(self.cells.contents, (0, 1, 2))

    def test_one_inside_another(self):
        with self.cells.trial():
            self.cells["x"] = 1
            with self.cells.trial() as held:
                self.assertIs(held, self.cells)
                self.cells["x"] = 2
                self.cells["y"] = 2
            self.assertEqual(self.cells.contents, (1, 1, 2))
            self.cells["z"] = 0
            self.assertEqual(self.cells.contents, (1, 1, 0))
        self.assertEqual(self.cells.contents, (0, 1, 2))

    def test_an_error_that_leaves_the_inner_one_only(self):
        with self.cells.trial():
            self.cells["x"] = 1
            with self.assertRaises(Failure):
                with self.cells.trial():
                    self.cells["x"] = 2
                    raise Failure()
            self.assertEqual(self.cells.contents, (1, 1, 2))
        self.assertEqual(self.cells.contents, (0, 1, 2))

    def test_an_error_that_leaves_both(self):
        with self.assertRaises(Failure):
            with self.cells.trial():
                self.cells["x"] = 1
                with self.cells.trial():
                    self.cells["x"] = 2
                    raise Failure()
        self.assertEqual(self.cells.contents, (0, 1, 2))

    def test_the_values_are_those_when_the_block_was_entered(self):
        trial = self.cells.trial()
        self.cells["x"] = 1
        with trial:
            self.cells["x"] = 2
        self.assertEqual(self.cells.contents, (1, 1, 2))

    def test_each_trial_is_a_new_object(self):
        self.assertIsNot(self.cells.trial(), self.cells.trial())
        self.assertEqual(self.cells.contents, (0, 1, 2))


class PeekTest(unittest.TestCase):
    def setUp(self):
        self.cells = Cells(NAMES, 3)
        self.cells.contents = (0, 1, 2)

    def test_right_changes(self):
        for changes, expected in (
            ([], (0, 1, 2)),
            ((), (0, 1, 2)),
            ([("x", 2)], (2, 1, 2)),
            ((("z", 0), ("x", 1)), (1, 1, 0)),
            ([("y", 0), ("y", 2)], (0, 2, 2)),
            ([("x", 2), ("y", 2), ("x", 1), ("z", 1)], (1, 2, 1)),
        ):
            with self.subTest(changes=changes):
                state = self.cells.peek(changes)
                self.assertEqual(state, expected)
                self.assertIs(type(state), tuple)
                self.assertEqual(self.cells.contents, (0, 1, 2))

    def test_a_refused_value_at_each_place(self):
        right = [("x", 1), ("y", 2), ("z", 0)]
        for at in range(4):
            # A second refused change stands behind the first one, and must not be looked at.
            changes = [*right[:at], ("y", 3), *right[at:], ("w", 0)]
            with self.subTest(changes=changes), self.assertRaises(OutOfRange) as caught:
                self.cells.peek(changes)
            self.assertEqual((caught.exception.cell, caught.exception.value), ("y", 3))
            self.assertEqual(self.cells.contents, (0, 1, 2))

    def test_a_refused_name_at_each_place(self):
        right = [("x", 1), ("y", 2), ("z", 0)]
        for at in range(4):
            changes = [*right[:at], ("w", 9), *right[at:], ("x", -1)]
            with self.subTest(changes=changes), self.assertRaises(UnknownCell) as caught:
                self.cells.peek(changes)
            self.assertEqual(caught.exception.cell, "w")
            self.assertEqual(self.cells.contents, (0, 1, 2))

    def test_the_changes_are_not_modified(self):
        changes = [("x", 2), ("y", 2)]
        self.cells.peek(changes)
        self.assertEqual(changes, [("x", 2), ("y", 2)])

    def test_peek_inside_a_trial(self):
        with self.cells.trial():
            self.cells["x"] = 1
            self.assertEqual(self.cells.peek([("z", 0)]), (1, 1, 0))
            self.assertEqual(self.cells.contents, (1, 1, 2))
        self.assertEqual(self.cells.contents, (0, 1, 2))


class ColumnsTest(unittest.TestCase):
    def test_names_and_states(self):
        self.assertEqual(
            columns(["x", "abcdefgh"], [(0, 1), (10, 2), [11, 0]]),
            [
                "        x abcdefgh",
                "        0        1",
                "       10        2",
                "       11        0",
            ],
        )

    def test_states_keep_their_order_and_repetitions(self):
        self.assertEqual(
            columns(("y",), ((2,), (0,), (2,))),
            ["        y", "        2", "        0", "        2"],
        )

    def test_no_states(self):
        self.assertEqual(columns(["x", "y", "z"], []), ["        x        y        z"])
        self.assertEqual(columns(("x",), ()), ["        x"])

    def test_the_list_is_new_and_the_arguments_are_not_modified(self):
        names, states = ["x", "y"], [(0, 1), [1, 0]]
        first = columns(names, states)
        second = columns(names, states)
        self.assertIs(type(first), list)
        self.assertEqual(first, second)
        self.assertIsNot(first, second)
        first.append("changed")
        self.assertEqual(columns(names, states), second)
        self.assertEqual((names, states), (["x", "y"], [(0, 1), [1, 0]]))

    def test_the_states_of_cells(self):
        cells = Cells(["x", "y"], 2)
        self.assertEqual(len(columns(cells.names, list(cells.states()))), 5)


if __name__ == "__main__":
    unittest.main()
