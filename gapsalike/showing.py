"""The shown text of a content."""

from gapsalike.fragments import kind, units
from gapsalike.gaps import counting


def shown_sign(mode, sign):
    """How a unit that is shown is shown."""
    here = kind(mode, sign)
    if here == "end":
        return "\n"
    return " " if here == "feed" else sign


def shown(fragment):
    """A tuple (text, sources): the shown text, and the units that it shows."""
    row = units(fragment)
    sources = counting(row, "end")
    pairs = [row[number] for number in sources]
    return "".join([shown_sign(mode, sign) for mode, sign in pairs]), sources
