"""Source text in lines: where no context tells a break, and fragments laid out."""

from gapsalike.forms import shortened
from gapsalike.fragments import tidy, units
from gapsalike.gaps import are_joining, gaps, white


def hides_feeds(left, right):
    """True if no feed in a gap is shown, as its known neighbors tell."""
    return left == "end" or right == "end" or are_joining(left, right)


def soft_places(row, number, left, right):
    """The place of the needed white unit of a gap, in a list, if it is soft."""
    if row[number][0] != "collapse" or left is None or right is None or hides_feeds(left, right):
        return []
    return [("soft", number)]


def open_places(row, first, last):
    """The open places from first to last, all in one gap that hides feeds."""
    return [
        ("open", k) for k in range(max(first, 1), min(last, len(row) - 1) + 1)
        if row[k - 1][0] == row[k][0] == "collapse"
    ]


def places_of(row):
    """The breaking places of a shortened fragment, by the list of its units."""
    places = []
    for first, signs, left, right in gaps(row, None):
        kept = white(signs, left, right)
        if kept >= 0:
            places.extend(soft_places(row, first + kept, left, right))
        elif hides_feeds(left, right):
            places.extend(open_places(row, first, first + len(signs)))
    return places


def breaking_places(fragment):
    """The breaking places of a fragment in order, tuples (kind, k)."""
    return places_of(units(shortened(fragment)))


def stops(row, kinds):
    """For each unit the next number behind it at which its line may or must end."""
    found = [0] * len(row)
    stop = len(row)
    for k in reversed(range(len(row))):
        found[k] = stop
        if k in kinds or row[k][1] == "\n":
            stop = k
    return found


def laid_out(fragment, width, indent):
    """A tuple (fragment, breaks): what is laid out, and how many breaks there are."""
    row = units(shortened(fragment))
    kinds = {k: name for name, k in places_of(row)}
    behind = stops(row, kinds)
    out = []
    column = 0
    breaks = 0
    for k, (mode, sign) in enumerate(row):
        here = kinds.get(k)
        # The space at a soft place takes a column as the unit at an open one does,
        # so one sum serves both kinds.
        if here is not None and column + behind[k] - k > width:
            out.extend([("collapse", "\n")] + [("collapse", " ")] * indent)
            column = indent
            breaks += 1
            if here == "soft":
                continue
        out.append(("collapse", " ") if here == "soft" else (mode, sign))
        column = 0 if out[-1][1] == "\n" else column + 1
    return tidy(out), breaks
