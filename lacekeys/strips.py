"""Strips: the stretches of keys of a block, by turns in a box and not in it, put together from the two halves."""

from lacekeys.halves import count_parts, halve, is_whole
from lacekeys.words import feet


class Strip:
    """The stretches of keys of a block: the lengths of the first and of the last one, and how many there are.

    The length of a stretch of keys that are not in the box has a minus.
    """

    def __init__(self, first, last, many):
        self.first = first
        self.last = last
        self.many = many


class Joint:
    """The parts and the strips of the two halves of a block."""

    def __init__(self, low_part, high_part, low, high):
        self.low_part = low_part
        self.high_part = high_part
        self.low = low
        self.high = high


def find_joints(word, levels):
    """Return for each letter a dict of the Joints of the blocks that it halves, by their parts in levels."""
    found = []
    below = {}
    for (letter, i, j), level in reversed(list(zip(feet(word), levels))):
        joints = {}
        for part in level:
            low_part, high_part = halve(letter, i, j, part)
            low, high = _strip_of(low_part, i, j, below), _strip_of(high_part, i, j, below)
            joints[part] = Joint(low_part, high_part, low, high)
        found.append(joints)
        below = joints
    return found[::-1]


def count_stretches(word, box):
    """Return a dict of how many runs, by their lengths, and gaps, by their lengths with a minus, a box has."""
    levels = count_parts(word, box)
    joints = find_joints(word, levels)
    found = {}
    for level, met in zip(levels, joints):
        for part, many in level.items():
            for length in _lengths_told_by(met[part]):
                found[length] = found.get(length, 0) + many
    for length in _lengths_at_ends(_strip_of(box, word.count("x"), word.count("y"), joints[0])):
        # What lies ahead of the first run or behind the last one is no gap.
        if length > 0:
            found[length] = found.get(length, 0) + 1
    return found


def runs_ended_low(joint):
    """Return how many runs of a block end in its low half."""
    return _runs_in(joint.low) - _runs_shared(joint)


def runs_begun_high(joint):
    """Return how many runs of a block begin in its high half."""
    return _runs_in(joint.high) - _runs_shared(joint)


def _strip_of(part, i, j, joints):
    """Return the strip of a block of 2 ** i by 2 ** j cells."""
    cells = 1 << (i + j)
    if part is None:
        return Strip(-cells, -cells, 1)
    if is_whole(part, i, j):
        return Strip(cells, cells, 1)
    return _put_together(joints[part])


def _put_together(joint):
    low, high = joint.low, joint.high
    if not _is_shared(joint):
        return Strip(low.first, high.last, low.many + high.many)
    length = low.last + high.first
    first = length if low.many == 1 else low.first
    last = length if high.many == 1 else high.last
    return Strip(first, last, low.many + high.many - 1)


def _lengths_told_by(joint):
    """Return the lengths of the stretches that lie within a block, but not within one of its halves.

    The first and the last stretch of a block or half do not lie within it, as they may go on beyond it.
    """
    low, high = joint.low, joint.high
    if _is_shared(joint):
        return [low.last + high.first] if low.many > 1 and high.many > 1 else []
    found = []
    if low.many > 1:
        found.append(low.last)
    if high.many > 1:
        found.append(high.first)
    return found


def _lengths_at_ends(strip):
    return [strip.first] if strip.many == 1 else [strip.first, strip.last]


def _is_shared(joint):
    """Tell whether the last stretch of the low half goes on as the first one of the high half."""
    return (joint.low.last > 0) == (joint.high.first > 0)


def _runs_shared(joint):
    return 1 if joint.low.last > 0 and joint.high.first > 0 else 0


def _runs_in(strip):
    # Runs and other stretches take turns, so the first one tells how many of each there are.
    return (strip.many + 1) // 2 if strip.first > 0 else strip.many // 2
