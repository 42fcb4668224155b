"""Contents that arrive in pieces: what is certain of them before they end."""

from gapsalike.errors import GapsError
from gapsalike.fragments import MOST_UNITS, tidy, units
from gapsalike.gaps import gaps, white
from gapsalike.showing import shown


def undecided(fragment):
    """The number of the undecided unit of a beginning, None if there is none."""
    place, signs, left, _ = gaps(units(fragment), "end")[-1]
    kept = white(signs, left, None)
    # A feed behind a zero-width unit is never shown, whatever follows.
    if kept < 0 or left == "zero" and signs[kept] == "\n":
        return None
    return place + kept


def certain(fragment):
    """The certain text of a beginning."""
    number = undecided(fragment)
    if number is None:
        return shown(fragment)[0]
    return shown(tidy(units(fragment)[:number]))[0]


class Stream:
    """A content that arrives in pieces, at first nothing."""

    def __init__(self):
        self._row = []
        self._told = 0
        self._ended = False

    def push(self, fragment):
        """Appends a fragment, and returns by which signs the certain text is longer."""
        if self._ended:
            raise GapsError("ended")
        row = self._row + units(fragment)
        if len(row) > MOST_UNITS:
            raise GapsError("too long")
        self._row = row
        return self._untold(certain(self.content()))

    def end(self):
        """Ends the content, and returns its shown text behind the certain one."""
        if self._ended:
            raise GapsError("ended")
        self._ended = True
        return self._untold(shown(self.content())[0])

    def content(self):
        """What has arrived, as a tidy fragment."""
        return tidy(self._row)

    def _untold(self, text):
        """The signs of a text that were not returned yet; now they are."""
        rest = text[self._told:]
        self._told = len(text)
        return rest
