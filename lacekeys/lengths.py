"""The lengths of the runs and of the gaps of a box, and its single runs."""

from lacekeys.checks import check_cell_of_box, check_index
from lacekeys.halves import count_parts
from lacekeys.layouts import check_layout_and_box
from lacekeys.runs import count_runs
from lacekeys.strips import count_stretches, find_joints, runs_begun_high, runs_ended_low


def run_lengths(layout, box):
    """Return the list of the tuples (length, how many) of the runs of a box, ascending."""
    check_layout_and_box(layout, box)
    stretches = count_stretches(layout.word, box)
    return sorted([(length, many) for length, many in stretches.items() if length > 0])


def gap_lengths(layout, box):
    """Return the list of the tuples (length, how many) of the gaps of a box, ascending."""
    check_layout_and_box(layout, box)
    stretches = count_stretches(layout.word, box)
    return sorted([(-length, many) for length, many in stretches.items() if length < 0])


def nth_run(layout, box, index):
    """Return the tuple of the first and the last key of the run of a box with an index."""
    runs = count_runs(layout, box)
    check_index(index, runs)
    return _run_at(_joints_of(layout, box), box, index, runs)


def run_of(layout, box, cell):
    """Return the tuple of the first and the last key of the run of a box with a cell."""
    check_layout_and_box(layout, box)
    check_cell_of_box(cell, box)
    joints = _joints_of(layout, box)
    index = _runs_ahead(joints, box, layout.key(cell))
    return _run_at(joints, box, index, count_runs(layout, box))


def _joints_of(layout, box):
    return find_joints(layout.word, count_parts(layout.word, box))


def _run_at(joints, box, index, runs):
    """Return the first and the last key of a run of a box with so many runs."""
    return (_first_key(joints, box, runs - 1 - index), _last_key(joints, box, index))


def _first_key(joints, box, behind):
    """Return the first key of the run behind which so many runs begin."""
    part, key, bits = box, 0, len(joints)
    for met in joints:
        if part not in met:
            # The whole block is in the box, and the run begins with it.
            break
        bits -= 1
        joint = met[part]
        begun = runs_begun_high(joint)
        if behind < begun:
            part = joint.high_part
            key += 1 << bits
        else:
            part = joint.low_part
            behind -= begun
    return key


def _last_key(joints, box, ahead):
    """Return the last key of the run ahead of which so many runs end."""
    part, bits = box, len(joints)
    key = (1 << bits) - 1
    for met in joints:
        if part not in met:
            # The whole block is in the box, and the run ends with it.
            break
        bits -= 1
        joint = met[part]
        ended = runs_ended_low(joint)
        if ahead < ended:
            part = joint.low_part
            key -= 1 << bits
        else:
            part = joint.high_part
            ahead -= ended
    return key


def _runs_ahead(joints, box, key):
    """Return how many runs end ahead of a key of the box."""
    part, ahead, bits = box, 0, len(joints)
    for met in joints:
        if part not in met:
            # The whole block is in the box, so no run ends ahead of a key within it.
            break
        bits -= 1
        joint = met[part]
        if (key >> bits) & 1:
            part = joint.high_part
            ahead += runs_ended_low(joint)
        else:
            part = joint.low_part
    return ahead
