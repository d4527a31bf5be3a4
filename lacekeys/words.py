"""The words of layouts, as strings of the letters x and y."""

from lacekeys.checks import MOST_BITS


def is_word(value):
    """Tell whether a value is the word of a layout."""
    if not isinstance(value, str) or value == "":
        return False
    x_bits, y_bits = value.count("x"), value.count("y")
    return x_bits + y_bits == len(value) and x_bits <= MOST_BITS and y_bits <= MOST_BITS


def feet(word):
    """Return the list of the tuples (letter, i, j) of a word: each letter and its foot.

    The digit of a letter is the one worth 2 ** i of x, or 2 ** j of y, and 2 ** (i + j) of the key.
    """
    i, j = word.count("x"), word.count("y")
    found = []
    for letter in word:
        if letter == "x":
            i -= 1
        else:
            j -= 1
        found.append((letter, i, j))
    return found


def shapes(word):
    """Return the list of the tuples (i, j), by t from 0 on: so many letters x and y are among the last t letters."""
    found = [(i, j) for letter, i, j in feet(word)]
    return found[::-1] + [(word.count("x"), word.count("y"))]
