"""What a name is: the same for cells, programs, local variables and functions."""

LETTERS = "abcdefghijklmnopqrstuvwxyz"
MOST_LETTERS = 8


def is_name(word):
    """Tell whether a string is a name."""
    return 1 <= len(word) <= MOST_LETTERS and all([letter in LETTERS for letter in word])
