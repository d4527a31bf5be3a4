"""What the tests hold the program against, worked out without it, and values for wrong inputs."""

from collections import Counter
from itertools import combinations


class Stranger:
    """A class that the program does not know."""


def strangers():
    """Return values of many kinds that are no integer, no tuple of integers and no Layout."""
    return [
        None, True, False, "", "1", "x", "0 0", b"", b"x", [], [0], [0, 0], [0, 0, 0, 0], {}, {0: 0}, {"x": 1},
        set(), {0, 1}, frozenset([0]), range(2), (None,), ("x", "y"), ((0, 0),), ((0, 0), (0, 0)), Stranger(),
        Stranger, len, NotImplemented, Ellipsis, ValueError("x"), iter([0, 0]), lambda: 0, {(0, 0): None},
    ]


def wrong_cells(x_bits, y_bits):
    """Return values that are no cell of the grid: of other kinds, and numbers just beside each bound."""
    x_end, y_end = 2 ** x_bits, 2 ** y_bits
    return strangers() + [
        0, 1, -1, (), (0,), (0, 0, 0), (0, 0, 0, 0), [0, 0], (True, 0), (0, False), (None, 0), (0, None), ("0", 0),
        (0, "0"), ([0], 0), ((0,), 0), (-1, 0), (0, -1), (x_end, 0), (0, y_end), (x_end, y_end), (-1, y_end),
        (10 ** 999, 0), (0, -10 ** 999),
    ]


def wrong_keys(x_bits, y_bits):
    """Return values that are no key of the grid."""
    end = 2 ** (x_bits + y_bits)
    return strangers() + [(), (0,), (0, 0), -1, end, end + 1, -end, 10 ** 999, -10 ** 999]


def wrong_bits():
    """Return values that are no number of bits."""
    return strangers() + [(), (1,), (1, 1), -1, 101, 102, 2 ** 100, -100, 10 ** 999, -10 ** 999]


def wrong_boxes(x_bits, y_bits):
    """Return values that are no box of the grid."""
    x_last, y_last = 2 ** x_bits - 1, 2 ** y_bits - 1
    whole = (0, 0, x_last, y_last)
    wrong = [0, -1, (), (0,), (0, 0), whole[:3], whole + (0,), list(whole), (whole,), ((0, 0), (x_last, y_last))]
    for at in range(4):
        for part in (None, True, False, "0", "", [0], (0,), b"0", -1, 10 ** 999, -10 ** 999):
            wrong.append(whole[:at] + (part,) + whole[at + 1:])
    wrong += [(0, 0, x_last + 1, y_last), (0, 0, x_last, y_last + 1), (x_last + 1, 0, x_last + 1, 0)]
    wrong += [(0, y_last + 1, 0, y_last + 1), (-1, 0, 0, 0), (0, -1, 0, 0), (-1, -1, -1, -1)]
    if x_last:
        wrong += [(1, 0, 0, y_last), (x_last, 0, x_last - 1, y_last)]
    if y_last:
        wrong += [(0, 1, x_last, 0), (0, y_last, x_last, y_last - 1)]
    return strangers() + wrong


def wrong_layouts():
    """Return values that are no Layout."""
    return strangers() + [0, 1, -1, (), (0, 0), "yxyx", ["yxyx"], ("yxyx",)]


def wrong_integers(low, high=None):
    """Return values that are no integer from low on, or from low to high."""
    beside = [low - 1, low - 2, -10 ** 30, -10 ** 999]
    if high is not None:
        beside += [high + 1, high + 2, 10 ** 99, 10 ** 999]
    return strangers() + [(), (low,), (low, low), [low], str(low), str(low).encode()] + beside


def wrong_items(x_bits, y_bits):
    """Return values that are no item of a load."""
    box = (0, 0, 2 ** x_bits - 1, 2 ** y_bits - 1)
    wrong = [0, 1, -1, (), box, (box,), (box, 1, 1), (1, box), [box, 1], (box, (1,)), (box, [1]), ((box, 1),), (1, 1)]
    wrong += [(value, 1) for value in wrong_boxes(x_bits, y_bits)]
    return strangers() + wrong + [(box, value) for value in wrong_integers(1, 10 ** 30)]


def wrong_lists(right, wrong, most):
    """Return tuples (value, index) of values that are no list of 1 to so many right items.

    right is one of these, wrong are values that are none; the index of the first wrong item, or None.
    """
    found = [(value, None) for value in strangers() + [0, 1, -1, (), (right,), (right, right), right, {right: right}]
             if not isinstance(value, list)]
    found += [([], None), ([right] * (most + 1), None), ([None] * (most + 1), None), ([right] * 400, None)]
    found += [([value], 0) for value in wrong] + [([right] * at + [wrong[at]], at) for at in range(most)]
    for at in range(most):
        found += [([right] * at + [value] + [right] * (most - at - 1), at) for value in (None, True, [], wrong[-1])]
        found.append(([right] * at + wrong[:most - at], at))
    return found


def words(x_bits, y_bits):
    """Return all words of so many letters x and y."""
    many = x_bits + y_bits
    found = []
    for places in combinations(range(many), x_bits):
        found.append("".join("x" if at in places else "y" for at in range(many)))
    return found


def small_words(most):
    """Return all words of at most so many letters."""
    sizes = [(n, m) for n in range(most + 1) for m in range(most + 1) if 0 < n + m <= most]
    return [word for n, m in sizes for word in words(n, m)]


def some_word(chance, x_bits, y_bits):
    """Return a word of so many letters."""
    letters = list("x" * x_bits + "y" * y_bits)
    chance.shuffle(letters)
    return "".join(letters)


def whole_box(word):
    """Return the box of all cells."""
    return (0, 0, 2 ** word.count("x") - 1, 2 ** word.count("y") - 1)


def some_box(chance, word):
    """Return a box of the grid of a word."""
    x1, x2 = sorted(chance.randrange(2 ** word.count("x")) for _ in range(2))
    y1, y2 = sorted(chance.randrange(2 ** word.count("y")) for _ in range(2))
    return (x1, y1, x2, y2)


def some_load(chance, word, many):
    """Return a load of so many items for the grid of a word, the weights of all sizes."""
    weights = [chance.randint(1, 10 ** chance.choice((0, 1, 2, 15, 30))) for _ in range(many)]
    return [(some_box(chance, word), weight) for weight in weights]


def some_cell(chance, box):
    """Return a cell of a box."""
    return (chance.randrange(box[0], box[2] + 1), chance.randrange(box[1], box[3] + 1))


def digits(number, many):
    """Return the binary digits of a number, the highest one first."""
    return list(bin(number)[2:].rjust(many, "0")) if many else []


def plain_key(word, cell):
    """Return the key of a cell, a digit taken for each letter."""
    x_digits, y_digits = digits(cell[0], word.count("x")), digits(cell[1], word.count("y"))
    taken = [x_digits.pop(0) if letter == "x" else y_digits.pop(0) for letter in word]
    return int("".join(taken), 2)


def listing(word):
    """Return the keys of all cells, by cell."""
    x_end, y_end = 2 ** word.count("x"), 2 ** word.count("y")
    return {(x, y): plain_key(word, (x, y)) for x in range(x_end) for y in range(y_end)}


def all_boxes(x_bits, y_bits):
    """Return all boxes of a grid."""
    x_sides = [(low, high) for high in range(2 ** x_bits) for low in range(high + 1)]
    y_sides = [(low, high) for high in range(2 ** y_bits) for low in range(high + 1)]
    return [(x1, y1, x2, y2) for x1, x2 in x_sides for y1, y2 in y_sides]


def all_cases(told):
    """Tell the tuples (word, listing, box) of all boxes of some words."""
    for word in told:
        keys = listing(word)
        for box in all_boxes(word.count("x"), word.count("y")):
            yield word, keys, box


def some_cases(chance, told, many):
    """Tell the tuples (word, listing, box) of so many boxes of each of some words."""
    for word in told:
        keys = listing(word)
        for _ in range(many):
            yield word, keys, some_box(chance, word)


def keys_of(keys, box):
    """Return the keys of a box, ascending, by the listing of all keys."""
    x1, y1, x2, y2 = box
    return sorted(keys[x, y] for x in range(x1, x2 + 1) for y in range(y1, y2 + 1))


def stretches(told):
    """Return the tuples of the first and the last one of each stretch of keys that follow one another."""
    found = []
    for key in told:
        if found and found[-1][1] == key - 1:
            found[-1] = (found[-1][0], key)
        else:
            found.append((key, key))
    return found


def lengths_of(spans):
    """Return the tuples (length, how many) of stretches, ascending."""
    return sorted(Counter(last - first + 1 for first, last in spans).items())


def gaps_of(spans):
    """Return the stretches between stretches."""
    return [(one[1] + 1, two[0] - 1) for one, two in zip(spans, spans[1:])]


def is_in(cell, box):
    """Tell whether a cell is in a box."""
    return box[0] <= cell[0] <= box[2] and box[1] <= cell[1] <= box[3]


def plain_saved(word, told):
    """Return for each letter how many of these keys end at it, the keys ahead being among them too."""
    among = set(told)
    counts = [0] * len(word)
    for key in told:
        if key - 1 in among:
            counts[bin(key).rindex("1") - len(bin(key))] += 1
    return counts


def plain_blocks(told, first, bits):
    """Return the tuples (first key, t) of the greatest aligned stretches of listed keys, found by halves."""
    wanted = range(first, first + 2 ** bits)
    among = [key for key in wanted if key in told]
    if len(among) == len(wanted):
        return [(first, bits)]
    if not among:
        return []
    return plain_blocks(told, first, bits - 1) + plain_blocks(told, first + 2 ** (bits - 1), bits - 1)


def all_ways(spans):
    """Return the tuples (scans, keys) of all ways to join stretches that are neighbours to scans."""
    gaps = [last - first + 1 for first, last in gaps_of(spans)]
    area_told = sum(last - first + 1 for first, last in spans)
    ways = set()
    for many in range(len(gaps) + 1):
        ways |= {(1 + many, area_told + sum(gaps) - sum(left)) for left in combinations(gaps, many)}
    return ways


def cells_of_boxes(boxes):
    """Return the cells that are in at least one of some boxes."""
    return {(x, y) for x1, y1, x2, y2 in boxes for x in range(x1, x2 + 1) for y in range(y1, y2 + 1)}
