"""What the tests hold the program against on grids of any size, worked out without it and without a listing."""

from collections import Counter
from math import comb

from tests.plain import digits, plain_key, some_box, some_word, whole_box


def great_cases(chance):
    """Return tuples (word, box) of great grids: of many kinds of words, and of boxes great, at the ends and small."""
    given = ["yx" * 100, "y" * 100 + "x" * 100, "x" * 100 + "y" * 100, "xy" * 50 + "yyxx" * 25, "x" * 63 + "yx" * 37]
    given += [some_word(chance, 100, 100), some_word(chance, 100, 100), some_word(chance, 7, 100), "x" * 100, "y" * 100]
    found = []
    for word in given:
        x0, y0, x3, y3 = whole_box(word)
        x1, y1, x2, y2 = some_box(chance, word)
        boxes = [(x0, y0, x3, y3), (x1, y1, x2, y2), some_box(chance, word), (x0, y0, x2, y2), (x1, y1, x3, y3)]
        boxes += [(x1, y0, x1, y3), (x0, y1, x3, y1), (x0, y1, x3, y2), (x1, y0, x2, y3)]
        boxes += [(x1, y1, x1, y1), (x0, y0, x0, y0), (x3, y3, x3, y3), (x3 // 2, y3 // 2, x3, y3)]
        boxes += [(min(1, x3), min(1, y3), max(0, x3 - 1), max(0, y3 - 1))]
        found += [(word, box) for box in boxes]
    return found


def scaled_cases(words, boxes):
    """Return tuples (word, box, t, begin, small word, small box): letters in front of a small word and t behind it.

    A key of the small box, less or more, is one of 2 ** t keys of the box that follow one another, behind begin.
    """
    found = []
    for small in words:
        for front, behind in (("x" * 90 + "y" * 91, ""), ("", "yx" * 92), ("xy" * 40, "y" * 50 + "x" * 30)):
            corner = (2 ** front.count("x") - 1, 2 ** front.count("y") // 3)
            wide, high = 2 ** behind.count("x"), 2 ** behind.count("y")
            for x1, y1, x2, y2 in boxes:
                x0, y0 = corner[0] * 2 ** small.count("x"), corner[1] * 2 ** small.count("y")
                box = ((x0 + x1) * wide, (y0 + y1) * high, (x0 + x2 + 1) * wide - 1, (y0 + y2 + 1) * high - 1)
                begin = plain_key(front, corner) << (len(small) + len(behind)) if front else 0
                found.append((front + small + behind, box, len(behind), begin, small, (x1, y1, x2, y2)))
    return found


def common_box(one, two):
    """Return the box of the cells of two boxes, or None."""
    x1, y1, x2, y2 = max(one[0], two[0]), max(one[1], two[1]), min(one[2], two[2]), min(one[3], two[3])
    return (x1, y1, x2, y2) if x1 <= x2 and y1 <= y2 else None


def area(box):
    """Return the number of cells of a box."""
    return (box[2] - box[0] + 1) * (box[3] - box[1] + 1)


def plain_cell(word, key):
    """Return the cell with a key, a digit given to each letter."""
    taken = {"x": "0", "y": "0"}
    for letter, digit in zip(word, digits(key, len(word))):
        taken[letter] += digit
    return (int(taken["x"], 2), int(taken["y"], 2))


def parts_ahead(word, box, key):
    """Return the boxes that together are all cells of a box with keys less than the told one, by ascending keys."""
    found, first = [], 0
    for at, digit in enumerate(digits(key, len(word))):
        if digit == "1":
            x, y = plain_cell(word, first)
            i, j = word[at + 1:].count("x"), word[at + 1:].count("y")
            found.append(common_box((x, y, x + 2 ** i - 1, y + 2 ** j - 1), box))
            first += 2 ** (i + j)
    return [part for part in found if part is not None]


def cells_ahead(word, box, key):
    """Return how many cells of a box have keys that are less."""
    return sum(area(part) for part in parts_ahead(word, box, key))


def by_halves(word, box, none, whole, together):
    """Return what is told of a box by putting halves of the grid together.

    none(t) and whole(t) tell it of blocks of t bits with no cell of the box, or all cells.
    """
    known = {}

    def told(at, box):
        i, j = word[at:].count("x"), word[at:].count("y")
        part = common_box(box, (0, 0, 2 ** i - 1, 2 ** j - 1))
        if part is None:
            return none(i + j)
        if area(part) == 2 ** (i + j):
            return whole(i + j)
        if (at, part) not in known:
            x1, y1, x2, y2 = part
            dx, dy = (2 ** (i - 1), 0) if word[at] == "x" else (0, 2 ** (j - 1))
            low = told(at + 1, (x1, y1, x2 if dx == 0 else min(x2, dx - 1), y2 if dy == 0 else min(y2, dy - 1)))
            known[at, part] = together(low, told(at + 1, (x1 - dx, y1 - dy, x2 - dx, y2 - dy)))
        return known[at, part]

    return told(0, box)


def halved(word, box):
    """Return the tuple (runs, saved) of a box."""

    def together(low, high):
        joins = [int(low[1] and high[0])] + [one + two for one, two in zip(low[2], high[2])]
        return (low[0], high[1], joins)

    def none(t):
        return (False, False, [0] * t)

    def whole(t):
        return (True, True, [2 ** at for at in range(t)])

    joins = by_halves(word, box, none, whole, together)[2]
    return (area(box) - sum(joins), joins)


def halved_lengths(word, box):
    """Return the tuple (lengths of runs, lengths of gaps) of a box, as lists of tuples.

    Of halves there are told the first and the last stretch, None if there is but one, and a Counter of the others;
    lengths of stretches outside of the box are below 0.
    """
    first, last, counts = by_halves(word, box, lambda t: (-2 ** t, None, {}), lambda t: (2 ** t, None, {}), beside)
    counts = Counter(counts) + Counter(length for length in (first, last) if length is not None and length > 0)
    runs = sorted((length, many) for length, many in counts.items() if length > 0)
    return (runs, sorted((-length, many) for length, many in counts.items() if length < 0))


def beside(low, high):
    """Return what halved_lengths tells of two halves together."""
    low_first, low_last, low_counts = low
    high_first, high_last, high_counts = high
    sides = [low_first] if low_last is None else [low_first, low_last]
    if (sides[-1] > 0) == (high_first > 0):
        sides[-1] += high_first
    else:
        sides.append(high_first)
    if high_last is not None:
        sides.append(high_last)
    last = sides[-1] if len(sides) > 1 else None
    return (sides[0], last, Counter(low_counts) + Counter(high_counts) + Counter(sides[1:-1]))


def halved_blocks(word, box):
    """Return the tuples (t, how many) of the blocks of a box, ascending."""
    counts = by_halves(word, box, lambda t: Counter(), lambda t: Counter([t]), lambda low, high: low + high)
    return sorted(counts.items())


def saved_by_feet(x_bits, y_bits, box):
    """Return a dict, by (letter, i, j), of what a letter with the foot (i, j) saves in a box."""
    told = ["x" * (x_bits - i) + "y" * y_bits + "x" * i for i in range(x_bits + 1)]
    told += ["y" * (y_bits - j) + "x" * x_bits + "y" * j for j in range(y_bits + 1)]
    found = {}
    for word in told:
        for at, many in enumerate(halved(word, box)[1]):
            behind = word[at + 1:]
            found[word[at], behind.count("x"), behind.count("y")] = many
    return found


def best_from_the_front(x_bits, y_bits, gains):
    """Return the tuple (gain, how many, word) of the words with the most gain, the first by alphabet told.

    gains tells the gain of each letter with each foot. The words are put together from the first letter on.
    """
    known = {(x_bits, y_bits): (0, 1, "")}
    for left in range(x_bits + y_bits, 0, -1):
        longer = {}
        for i in range(max(0, left - y_bits), min(x_bits, left) + 1):
            gain, many, word = known[i, left - i]
            for letter, foot in (("x", (i - 1, left - i)), ("y", (i, left - i - 1))):
                if min(foot) >= 0:
                    longer.setdefault(foot, []).append((gain + gains[(letter, *foot)], many, word + letter))
        for foot, ways in longer.items():
            most = max(gain for gain, _, _ in ways)
            those = [(many, word) for gain, many, word in ways if gain == most]
            known[foot] = (most, sum(many for many, _ in those), min(word for _, word in those))
    return known[0, 0]


def neighbours(word):
    """Return the words in which two letters side by side are exchanged."""
    pairs = [at for at in range(len(word) - 1) if word[at] != word[at + 1]]
    return [word[:at] + word[at + 1] + word[at] + word[at + 2:] for at in pairs]


def place_by_alphabet(word):
    """Return how many words of the same letters are ahead of a word by alphabet."""
    ahead = 0
    for at, letter in enumerate(word):
        if letter == "y" and "x" in word[at:]:
            # An x in its place, and the other letters in any sequence.
            left = word[at:]
            ahead += comb(len(left) - 1, left.count("y"))
    return ahead


def place_classes(bits, size):
    """Return tuples (least number, how many) of the begins of a stretch of a size that go alike, of so many bits.

    With b the bits of size, a stretch has at most one multiple of 2 ** b behind its begin: what goes alike has the same
    last b bits and, where there is such a multiple, the same number of bits 0 at its end.
    """
    low_bits = size.bit_length()
    if low_bits >= bits:
        return [(begin, 1) for begin in range(2 ** bits - size + 1)]
    found = []
    for low in range(2 ** low_bits):
        if low + size - 1 < 2 ** low_bits:
            found.append((low, 2 ** (bits - low_bits)))
        else:
            for zeros in range(low_bits, bits):
                found.append((2 ** zeros - 2 ** low_bits + low, 2 ** (bits - 1 - zeros)))
    return found


def total_at_places(word, width, height):
    """Return the sum of the runs of a box of this size at all places, by the places with each pair of keys."""
    x_bits, y_bits = word.count("x"), word.count("y")
    x_cover, y_cover = cover_sum(x_bits, width), cover_sum(y_bits, height)
    total = width * height * (2 ** x_bits - width + 1) * (2 ** y_bits - height + 1)
    for at, letter in enumerate(word):
        i, j = word[at + 1:].count("x"), word[at + 1:].count("y")
        if letter == "x":
            total -= x_cover(2 ** i - 1, 2 ** (i + 1), 2) * y_cover(0, 2 ** j, 2 ** j)
        else:
            total -= y_cover(2 ** j - 1, 2 ** (j + 1), 2) * x_cover(0, 2 ** i, 2 ** i)
    return total


def cover_sum(bits, size):
    """Return a function (first, step, wide) for stretches of a size among the numbers of so many bits.

    It tells the sum, over all numbers first + k * step, of how many stretches have all of the numbers, so many, from
    there on.
    """
    last = 2 ** bits - size

    def told(first, step, wide):
        if wide > size:
            return 0
        many = (2 ** bits - wide - first) // step + 1
        if many <= 0:
            return 0
        # As many begin up to the number; some of them end ahead of the last one wanted.
        begun = sum_up_to(first, step, many, last) + many
        return begun - (sum_up_to(first, step, many, 2 ** bits) - sum_up_to(first, step, many, size - wide))

    return told


def sum_up_to(first, step, many, most):
    """Return the sum of min(first + k * step, most) for k from 0 to many - 1."""
    below = min(many, max(0, (most - first) // step + 1))
    return first * below + step * below * (below - 1) // 2 + most * (many - below)


def halved_union(word, boxes):
    """Return the tuple (cells, runs) of boxes together, by halves of the grid."""
    known = {}

    def told(at, parts):
        i, j = word[at:].count("x"), word[at:].count("y")
        grid = (0, 0, 2 ** i - 1, 2 ** j - 1)
        parts = tuple(sorted({part for part in (common_box(box, grid) for box in parts) if part is not None}))
        if not parts:
            return (False, False, 0, 0)
        if grid in parts:
            return (True, True, 2 ** (i + j), 1)
        if (at, parts) not in known:
            dx, dy = (2 ** (i - 1), 0) if word[at] == "x" else (0, 2 ** (j - 1))
            middle = (0, 0, (dx or 2 ** i) - 1, (dy or 2 ** j) - 1)
            low = told(at + 1, [part for part in (common_box(box, middle) for box in parts) if part is not None])
            high = told(at + 1, [(x1 - dx, y1 - dy, x2 - dx, y2 - dy) for x1, y1, x2, y2 in parts])
            runs = low[3] + high[3] - int(low[1] and high[0])
            known[at, parts] = (low[0], high[1], low[2] + high[2], runs)
        return known[at, parts]

    return told(0, boxes)[2:]
