"""What it costs to read a box by few scans: which gaps are read along with the runs beside them."""

from lacekeys.boxes import area_of
from lacekeys.checks import check_number
from lacekeys.layouts import check_layout_and_box
from lacekeys.lengths import gap_lengths
from lacekeys.runs import count_runs, ends


def fewest_read(layout, box, scans):
    """Return the fewest keys that so many scans, or fewer, can read that read all keys of a box."""
    check_layout_and_box(layout, box)
    check_number(scans, 1)
    first, last = ends(layout, box)
    read = last - first + 1
    left = scans - 1
    # One scan reads all gaps; each further one spares a gap, the longest first.
    for length, many in gap_lengths(layout, box)[::-1]:
        spared = min(many, left)
        read -= spared * length
        left -= spared
    return read


def fewest_scans(layout, box, keys):
    """Return the fewest scans that can read all keys of a box and at most so many in all, or None."""
    check_layout_and_box(layout, box)
    check_number(keys, 1)
    left = keys - area_of(box)
    if left < 0:
        return None
    scans = count_runs(layout, box)
    # Each gap that is read saves a scan, so the shortest are read first.
    for length, many in gap_lengths(layout, box):
        joined = min(many, left // length)
        scans -= joined
        left -= joined * length
    return scans


def least_cost(layout, box, scan_price, key_price):
    """Return the least cost of reading all keys of a box, each scan and each key that is read having its price."""
    check_layout_and_box(layout, box)
    check_number(scan_price, 0)
    check_number(key_price, 0)
    gaps = gap_lengths(layout, box)
    # Behind each gap a new scan begins, or the gap is read as well.
    price_of_gaps = sum([many * min(scan_price, length * key_price) for length, many in gaps])
    return scan_price + area_of(box) * key_price + price_of_gaps
