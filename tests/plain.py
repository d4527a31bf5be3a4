"""What the tests hold the program against, worked out without it, and values for wrong inputs."""

from itertools import combinations


class Stranger:
    """A class that the program does not know."""


def strangers():
    """Return values of many kinds that are no integer, no tuple of integers and no Layout."""
    return [
        None, True, False, "", "1", "x", "0 0", b"", b"x", [], [0], [0, 0], [0, 0, 0, 0], {}, {0: 0}, {"x": 1},
        set(), {0, 1}, frozenset([0]), range(2), (None,), ("x", "y"), ((0, 0),), ((0, 0), (0, 0)), Stranger(),
        Stranger, len, NotImplemented, Ellipsis, ValueError("x"), iter([0, 0]), lambda: 0, {(0, 0): None},
    ]


def wrong_cells(x_bits, y_bits):
    """Return values that are no cell of the grid: of other kinds, and numbers just beside each bound."""
    x_end, y_end = 2 ** x_bits, 2 ** y_bits
    return strangers() + [
        0, 1, -1, (), (0,), (0, 0, 0), (0, 0, 0, 0), [0, 0], (True, 0), (0, False), (None, 0), (0, None), ("0", 0),
        (0, "0"), ([0], 0), ((0,), 0), (-1, 0), (0, -1), (x_end, 0), (0, y_end), (x_end, y_end), (-1, y_end),
        (10 ** 999, 0), (0, -10 ** 999),
    ]


def wrong_keys(x_bits, y_bits):
    """Return values that are no key of the grid."""
    end = 2 ** (x_bits + y_bits)
    return strangers() + [(), (0,), (0, 0), -1, end, end + 1, -end, 10 ** 999, -10 ** 999]


def wrong_bits():
    """Return values that are no number of bits."""
    return strangers() + [(), (1,), (1, 1), -1, 101, 102, 2 ** 100, -100, 10 ** 999, -10 ** 999]


def wrong_boxes(x_bits, y_bits):
    """Return values that are no box of the grid."""
    x_last, y_last = 2 ** x_bits - 1, 2 ** y_bits - 1
    whole = (0, 0, x_last, y_last)
    wrong = [0, -1, (), (0,), (0, 0), whole[:3], whole + (0,), list(whole), (whole,), ((0, 0), (x_last, y_last))]
    for at in range(4):
        for part in (None, True, False, "0", "", [0], (0,), b"0", -1, 10 ** 999, -10 ** 999):
            wrong.append(whole[:at] + (part,) + whole[at + 1:])
    wrong += [(0, 0, x_last + 1, y_last), (0, 0, x_last, y_last + 1), (x_last + 1, 0, x_last + 1, 0)]
    wrong += [(0, y_last + 1, 0, y_last + 1), (-1, 0, 0, 0), (0, -1, 0, 0), (-1, -1, -1, -1)]
    if x_last:
        wrong += [(1, 0, 0, y_last), (x_last, 0, x_last - 1, y_last)]
    if y_last:
        wrong += [(0, 1, x_last, 0), (0, y_last, x_last, y_last - 1)]
    return strangers() + wrong


def wrong_layouts():
    """Return values that are no Layout."""
    return strangers() + [0, 1, -1, (), (0, 0), "yxyx", ["yxyx"], ("yxyx",)]


def words(x_bits, y_bits):
    """Return all words of so many letters x and y."""
    many = x_bits + y_bits
    found = []
    for places in combinations(range(many), x_bits):
        found.append("".join("x" if at in places else "y" for at in range(many)))
    return found


def small_words(most):
    """Return all words of at most so many letters."""
    sizes = [(n, m) for n in range(most + 1) for m in range(most + 1) if 0 < n + m <= most]
    return [word for n, m in sizes for word in words(n, m)]


def digits(number, many):
    """Return the binary digits of a number, the highest one first."""
    return list(bin(number)[2:].rjust(many, "0")) if many else []


def plain_key(word, cell):
    """Return the key of a cell, a digit taken for each letter."""
    x_digits, y_digits = digits(cell[0], word.count("x")), digits(cell[1], word.count("y"))
    taken = [x_digits.pop(0) if letter == "x" else y_digits.pop(0) for letter in word]
    return int("".join(taken), 2)


def listing(word):
    """Return the keys of all cells, by cell."""
    x_end, y_end = 2 ** word.count("x"), 2 ** word.count("y")
    return {(x, y): plain_key(word, (x, y)) for x in range(x_end) for y in range(y_end)}


def all_boxes(x_bits, y_bits):
    """Return all boxes of a grid."""
    x_sides = [(low, high) for high in range(2 ** x_bits) for low in range(high + 1)]
    y_sides = [(low, high) for high in range(2 ** y_bits) for low in range(high + 1)]
    return [(x1, y1, x2, y2) for x1, x2 in x_sides for y1, y2 in y_sides]


def keys_of(keys, box):
    """Return the keys of a box, ascending, by the listing of all keys."""
    x1, y1, x2, y2 = box
    return sorted(keys[x, y] for x in range(x1, x2 + 1) for y in range(y1, y2 + 1))


def stretches(told):
    """Return the tuples of the first and the last one of each stretch of keys that follow one another."""
    found = []
    for key in told:
        if found and found[-1][1] == key - 1:
            found[-1] = (found[-1][0], key)
        else:
            found.append((key, key))
    return found


def plain_saved(word, told):
    """Return for each letter how many of these keys end at it, the keys ahead being among them too."""
    among = set(told)
    counts = [0] * len(word)
    for key in told:
        if key - 1 in among:
            counts[bin(key).rindex("1") - len(bin(key))] += 1
    return counts


def halved(word, box):
    """Return the tuple (runs, saved) of a box of a grid of any size, by putting halves of the grid together."""
    known = {}

    def told(at, box):
        """Return (begins, ends, joins) of a box that is clipped to the cells of the letters from at on."""
        i, j = word[at:].count("x"), word[at:].count("y")
        x1, y1 = max(box[0], 0), max(box[1], 0)
        x2, y2 = min(box[2], 2 ** i - 1), min(box[3], 2 ** j - 1)
        if x1 > x2 or y1 > y2:
            return (False, False, [0] * (i + j))
        if (x1, y1, x2, y2) == (0, 0, 2 ** i - 1, 2 ** j - 1):
            return (True, True, [2 ** t for t in range(i + j)])
        if (at, x1, y1, x2, y2) not in known:
            dx, dy = (2 ** (i - 1), 0) if word[at] == "x" else (0, 2 ** (j - 1))
            low = told(at + 1, (x1, y1, x2 if dx == 0 else min(x2, dx - 1), y2 if dy == 0 else min(y2, dy - 1)))
            high = told(at + 1, (x1 - dx, y1 - dy, x2 - dx, y2 - dy))
            joins = [int(low[1] and high[0])] + [one + two for one, two in zip(low[2], high[2])]
            known[at, x1, y1, x2, y2] = (low[0], high[1], joins)
        return known[at, x1, y1, x2, y2]

    joins = told(0, box)[2]
    area = (box[2] - box[0] + 1) * (box[3] - box[1] + 1)
    return (area - sum(joins), joins)
