"""The words of so many letters that save most.

A word is a way from (0, 0) to (x_bits, y_bits), letter by letter from the last one on, for what a letter saves hangs on
the letter and its foot alone.
"""


class Way:
    """The most that a word of some letters saves, and how many of the words that save it begin with x, and with y."""

    def __init__(self, saved, x_many, y_many):
        self.saved = saved
        self.x_many = x_many
        self.y_many = y_many


def find_ways(x_bits, y_bits, x_saves, y_saves):
    """Return a dict, by (i, j), of the Way of the words of i letters x and j letters y.

    x_saves[i][j] and y_saves[i][j] tell what a letter x, or y, with the foot (i, j) saves.
    """
    # There is one word without letters; which letter it is counted for does not matter.
    ways = {(0, 0): Way(0, 1, 0)}
    for i in range(x_bits + 1):
        for j in range(y_bits + 1):
            if i > 0 and j > 0:
                by_x, by_y = _x_first(ways, x_saves, i, j), _y_first(ways, y_saves, i, j)
                ways[i, j] = _better_of(by_x, by_y)
            elif i > 0:
                ways[i, j] = _x_first(ways, x_saves, i, j)
            elif j > 0:
                ways[i, j] = _y_first(ways, y_saves, i, j)
    return ways


def best_word(x_bits, y_bits, x_saves, y_saves):
    """Return the tuple (saved, how many, word): the most that a word saves, how many words save it, the first of these.

    The first one is meant by alphabet; x_saves and y_saves are as in find_ways.
    """
    ways = find_ways(x_bits, y_bits, x_saves, y_saves)
    way = ways[x_bits, y_bits]
    return (way.saved, count_words(way), nth_word(ways, x_bits, y_bits, 0))


def count_words(way):
    """Return how many words save the most."""
    return way.x_many + way.y_many


def nth_word(ways, x_bits, y_bits, index):
    """Return the word with an index among those that save most, by alphabet."""
    i, j, left = x_bits, y_bits, index
    word = ""
    while i + j > 0:
        way = ways[i, j]
        if left < way.x_many:
            word += "x"
            i -= 1
        else:
            word += "y"
            left -= way.x_many
            j -= 1
    return word


def _x_first(ways, x_saves, i, j):
    """Return the Way of the words of i letters x and j letters y that begin with x."""
    behind = ways[i - 1, j]
    return Way(behind.saved + x_saves[i - 1][j], count_words(behind), 0)


def _y_first(ways, y_saves, i, j):
    """Return the Way of the words of i letters x and j letters y that begin with y."""
    behind = ways[i, j - 1]
    return Way(behind.saved + y_saves[i][j - 1], 0, count_words(behind))


def _better_of(by_x, by_y):
    if by_x.saved == by_y.saved:
        return Way(by_x.saved, by_x.x_many, by_y.y_many)
    return by_x if by_x.saved > by_y.saved else by_y
