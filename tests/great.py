"""What the tests hold the program against on grids of any size, worked out without it and without a listing."""

from collections import Counter

from tests.plain import digits, plain_key, some_box, some_word, whole_box


def great_cases(chance):
    """Return tuples (word, box) of great grids: of many kinds of words, and of boxes great, at the ends and small."""
    given = ["yx" * 100, "y" * 100 + "x" * 100, "x" * 100 + "y" * 100, "xy" * 50 + "yyxx" * 25, "x" * 63 + "yx" * 37]
    given += [some_word(chance, 100, 100), some_word(chance, 100, 100), some_word(chance, 7, 100), "x" * 100, "y" * 100]
    found = []
    for word in given:
        x0, y0, x3, y3 = whole_box(word)
        x1, y1, x2, y2 = some_box(chance, word)
        boxes = [(x0, y0, x3, y3), (x1, y1, x2, y2), some_box(chance, word), (x0, y0, x2, y2), (x1, y1, x3, y3)]
        boxes += [(x1, y0, x1, y3), (x0, y1, x3, y1), (x0, y1, x3, y2), (x1, y0, x2, y3)]
        boxes += [(x1, y1, x1, y1), (x0, y0, x0, y0), (x3, y3, x3, y3), (x3 // 2, y3 // 2, x3, y3)]
        boxes += [(min(1, x3), min(1, y3), max(0, x3 - 1), max(0, y3 - 1))]
        found += [(word, box) for box in boxes]
    return found


def scaled_cases(words, boxes):
    """Return tuples (word, box, t, begin, small word, small box): letters in front of a small word and t behind it.

    A key of the small box, less or more, is one of 2 ** t keys of the box that follow one another, behind begin.
    """
    found = []
    for small in words:
        for front, behind in (("x" * 90 + "y" * 91, ""), ("", "yx" * 92), ("xy" * 40, "y" * 50 + "x" * 30)):
            corner = (2 ** front.count("x") - 1, 2 ** front.count("y") // 3)
            wide, high = 2 ** behind.count("x"), 2 ** behind.count("y")
            for x1, y1, x2, y2 in boxes:
                x0, y0 = corner[0] * 2 ** small.count("x"), corner[1] * 2 ** small.count("y")
                box = ((x0 + x1) * wide, (y0 + y1) * high, (x0 + x2 + 1) * wide - 1, (y0 + y2 + 1) * high - 1)
                begin = plain_key(front, corner) << (len(small) + len(behind)) if front else 0
                found.append((front + small + behind, box, len(behind), begin, small, (x1, y1, x2, y2)))
    return found


def common_box(one, two):
    """Return the box of the cells of two boxes, or None."""
    x1, y1, x2, y2 = max(one[0], two[0]), max(one[1], two[1]), min(one[2], two[2]), min(one[3], two[3])
    return (x1, y1, x2, y2) if x1 <= x2 and y1 <= y2 else None


def area(box):
    """Return the number of cells of a box."""
    return (box[2] - box[0] + 1) * (box[3] - box[1] + 1)


def plain_cell(word, key):
    """Return the cell with a key, a digit given to each letter."""
    taken = {"x": "0", "y": "0"}
    for letter, digit in zip(word, digits(key, len(word))):
        taken[letter] += digit
    return (int(taken["x"], 2), int(taken["y"], 2))


def parts_ahead(word, box, key):
    """Return the boxes that together are all cells of a box with keys less than the told one, by ascending keys."""
    found, first = [], 0
    for at, digit in enumerate(digits(key, len(word))):
        if digit == "1":
            x, y = plain_cell(word, first)
            i, j = word[at + 1:].count("x"), word[at + 1:].count("y")
            found.append(common_box((x, y, x + 2 ** i - 1, y + 2 ** j - 1), box))
            first += 2 ** (i + j)
    return [part for part in found if part is not None]


def cells_ahead(word, box, key):
    """Return how many cells of a box have keys that are less."""
    return sum(area(part) for part in parts_ahead(word, box, key))


def by_halves(word, box, none, whole, together):
    """Return what is told of a box by putting halves of the grid together.

    none(t) and whole(t) tell it of blocks of t bits with no cell of the box, or all cells.
    """
    known = {}

    def told(at, box):
        i, j = word[at:].count("x"), word[at:].count("y")
        part = common_box(box, (0, 0, 2 ** i - 1, 2 ** j - 1))
        if part is None:
            return none(i + j)
        if area(part) == 2 ** (i + j):
            return whole(i + j)
        if (at, part) not in known:
            x1, y1, x2, y2 = part
            dx, dy = (2 ** (i - 1), 0) if word[at] == "x" else (0, 2 ** (j - 1))
            low = told(at + 1, (x1, y1, x2 if dx == 0 else min(x2, dx - 1), y2 if dy == 0 else min(y2, dy - 1)))
            known[at, part] = together(low, told(at + 1, (x1 - dx, y1 - dy, x2 - dx, y2 - dy)))
        return known[at, part]

    return told(0, box)


def halved(word, box):
    """Return the tuple (runs, saved) of a box."""

    def together(low, high):
        joins = [int(low[1] and high[0])] + [one + two for one, two in zip(low[2], high[2])]
        return (low[0], high[1], joins)

    def none(t):
        return (False, False, [0] * t)

    def whole(t):
        return (True, True, [2 ** at for at in range(t)])

    joins = by_halves(word, box, none, whole, together)[2]
    return (area(box) - sum(joins), joins)


def halved_lengths(word, box):
    """Return the tuple (lengths of runs, lengths of gaps) of a box, as lists of tuples.

    Of halves there are told the first and the last stretch, None if there is but one, and a Counter of the others;
    lengths of stretches outside of the box are below 0.
    """
    first, last, counts = by_halves(word, box, lambda t: (-2 ** t, None, {}), lambda t: (2 ** t, None, {}), beside)
    counts = Counter(counts) + Counter(length for length in (first, last) if length is not None and length > 0)
    runs = sorted((length, many) for length, many in counts.items() if length > 0)
    return (runs, sorted((-length, many) for length, many in counts.items() if length < 0))


def beside(low, high):
    """Return what halved_lengths tells of two halves together."""
    low_first, low_last, low_counts = low
    high_first, high_last, high_counts = high
    sides = [low_first] if low_last is None else [low_first, low_last]
    if (sides[-1] > 0) == (high_first > 0):
        sides[-1] += high_first
    else:
        sides.append(high_first)
    if high_last is not None:
        sides.append(high_last)
    last = sides[-1] if len(sides) > 1 else None
    return (sides[0], last, Counter(low_counts) + Counter(high_counts) + Counter(sides[1:-1]))


def halved_blocks(word, box):
    """Return the tuples (t, how many) of the blocks of a box, ascending."""
    counts = by_halves(word, box, lambda t: Counter(), lambda t: Counter([t]), lambda low, high: low + high)
    return sorted(counts.items())
