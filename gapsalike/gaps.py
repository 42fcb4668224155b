"""Gaps and their neighbors, and which of their units count.

Showing a content and shortening a fragment differ only in what stands beyond
the borders: a line end, or something that is not known. So both are done here,
and the caller says what is outside: "end" or None.
"""

from gapsalike.fragments import kind

IN_GAPS = ("space", "feed", "mark")


def gaps(units, outside):
    """The gaps of a list of units, in order: tuples (place, signs, left, right).

    place is in front of the first unit of the gap; left and right are the kinds
    of its neighbors. A sign tells what a unit of a gap is, whatever its mode.
    """
    found = []
    signs = []
    left = outside
    for number, (mode, sign) in enumerate(units):
        here = kind(mode, sign)
        if here in IN_GAPS:
            signs.append(sign)
        else:
            found.append((number - len(signs), "".join(signs), left, here))
            signs = []
            left = here
    found.append((len(units) - len(signs), "".join(signs), left, outside))
    return found


def are_joining(left, right):
    """True if two neighbors, by their kinds, are known and join."""
    if left is None or right is None:
        return False
    return left == "zero" or right == "zero" or left == right == "wide"


def white(signs, left, right):
    """Which of the signs of a gap is its white unit that counts, -1 if none."""
    if left == "end" or right == "end":
        return -1
    if "\n" not in signs:
        return signs.find(" ")
    # A feed between neighbors that join hides the spaces beside it, too.
    return -1 if are_joining(left, right) else signs.find("\n")


def counting(units, outside):
    """The numbers of the units that count: solid ones, marks, and white ones."""
    numbers = []
    for place, signs, left, right in gaps(units, outside):
        kept = white(signs, left, right)
        for k, sign in enumerate(signs):
            if k == kept or kind("collapse", sign) == "mark":
                numbers.append(place + k)
        solid = place + len(signs)
        if solid < len(units):
            numbers.append(solid)
    return numbers
