"""Documents: contents that are edited, undone and searched."""

from gapsalike.changes import change
from gapsalike.errors import GapsError
from gapsalike.forms import shortened
from gapsalike.fragments import MOST_UNITS, tidy, units
from gapsalike.showing import shown

MOST_EARLIER = 100


class Document:
    """A content with its shown text, earlier contents, and contents that were undone."""

    def __init__(self, fragment):
        self._earlier = []
        self._undone = []
        self._text = ""
        self._sources = []
        self._row = []
        self._become(units(fragment))

    def text(self):
        """The shown text."""
        return self._text

    def length(self):
        """The number of units."""
        return len(self._row)

    def content(self):
        """The content, as a tidy fragment."""
        return tidy(self._row)

    def replace(self, start, end, fragment):
        """Replaces the units from start up to end, and returns the change of the text."""
        self._check(start, end)
        row = self._row[:start] + units(fragment) + self._row[end:]
        if len(row) > MOST_UNITS:
            raise GapsError("too long")
        return self._edit(row)

    def compact(self, start, end):
        """Shortens the units from start up to end, and returns the change of the text."""
        short = units(shortened(self.source(start, end)))
        return self._edit(self._row[:start] + short + self._row[end:])

    def undo(self):
        """Goes back to the latest earlier content, and returns the change of the text."""
        if not self._earlier:
            raise GapsError("nothing to undo")
        self._undone.append(self._row)
        return self._become(self._earlier.pop())

    def redo(self):
        """Goes on to the content that was undone last, and returns the change of the text."""
        if not self._undone:
            raise GapsError("nothing to redo")
        self._keep()
        return self._become(self._undone.pop())

    def source(self, start, end):
        """The units from start up to end, as a tidy fragment."""
        self._check(start, end)
        return tidy(self._row[start:end])

    def to_shown(self, place):
        """The offset of a place."""
        self._check(0, place)
        return len([number for number in self._sources if number < place])

    def to_source(self, offset):
        """A tuple of the first and the last place of an offset."""
        if offset > len(self._sources):
            raise GapsError("outside")
        bounds = [-1] + self._sources + [len(self._row)]
        return bounds[offset] + 1, bounds[offset + 1]

    def find(self, needle):
        """The occurrences of a string in the shown text, tuples (offset, start, end)."""
        found = []
        offset = self._text.find(needle)
        while offset >= 0:
            last = offset + len(needle) - 1
            found.append((offset, self._sources[offset], self._sources[last] + 1))
            offset = self._text.find(needle, offset + 1)
        return found

    def _check(self, start, end):
        """Raises the error if these are not two places, one behind the other."""
        if start > end or end > len(self._row):
            raise GapsError("outside")

    def _keep(self):
        """Makes the content the latest earlier one."""
        self._earlier = (self._earlier + [self._row])[-MOST_EARLIER:]

    def _edit(self, row):
        """Makes these units the content, as an edit does."""
        self._keep()
        self._undone.clear()
        return self._become(row)

    def _become(self, row):
        """Makes these units the content, and returns the change of the shown text."""
        before = self._text
        self._row = row
        self._text, self._sources = shown(self.content())
        return change(before, self._text)
