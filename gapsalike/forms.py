"""What all contexts tell: shortened fragments, normal forms, free places."""

from gapsalike.fragments import are_signs, tidy, units
from gapsalike.gaps import counting, gaps, white
from gapsalike.showing import shown, shown_sign

CONTEXTS = (
    ("", ""), ("a", ""), ("^", ""), ("a ", ""), ("", "a"), ("", "^"), ("", " a"), ("a", "a"), ("^", "a"),
)


def shortened(fragment):
    """The needed units of a fragment, as a tidy fragment."""
    row = units(fragment)
    return tidy([row[number] for number in counting(row, None)])


def marks(signs):
    """The marks among the signs of a gap."""
    return signs.replace(" ", "").replace("\n", "")


def gap_form(signs, left, right):
    """The part of the normal form that a gap with these neighbors makes."""
    kept = white(signs, left, right)
    if kept < 0:
        return marks(signs)
    before = marks(signs[:kept])
    after = marks(signs[kept + 1:])
    if left is not None and right is not None:
        return before + " " + after
    # Beside a zero-width unit a feed is never shown, but it hides the spaces
    # that a context brings: no context tells where in the gap it stands.
    if signs[kept] == "\n" and right == "zero":
        return before + after + "\n"
    if signs[kept] == "\n" and left == "zero":
        return "\n" + before + after
    return before + signs[kept] + after


def normal_form(fragment):
    """The normal form of a fragment, a tuple (start, core, end) of strings."""
    row = units(fragment)
    texts = []
    for place, signs, left, right in gaps(row, None):
        texts.append(gap_form(signs, left, right))
        if right is not None:
            mode, sign = row[place + len(signs)]
            texts.append(shown_sign(mode, sign))
    if len(texts) == 1:
        return texts[0], "", ""
    return texts[0], "".join(texts[1:-1]), texts[-1]


def stands_for(form):
    """The fragment for which a normal form stands."""
    start, core, end = form
    return tidy(units([("collapse", start), ("preserve", core), ("collapse", end)]))


def is_form(thing):
    """True if thing, which may be anything, is the normal form of a fragment."""
    if not isinstance(thing, tuple) or len(thing) != 3:
        return False
    if not all(isinstance(part, str) and are_signs(part) for part in thing):
        return False
    # A normal form is that of the fragment for which it stands; nothing else is.
    return normal_form(stands_for(thing)) == thing


def together(first, second):
    """The normal form of two fragments, one behind the other, by their own."""
    return normal_form(stands_for(first) + stands_for(second))


def are_alike(first, second):
    """True if two fragments are shown alike in every context."""
    return normal_form(first) == normal_form(second)


def is_telling(first, second, context):
    """True if two fragments are shown unlike in a context (before, after)."""
    before, after = context
    front = [("collapse", before)]
    back = [("collapse", after)]
    return shown(front + first + back)[0] != shown(front + second + back)[0]


def telling(first, second):
    """The first of the nine contexts in which two fragments are shown unlike, or None."""
    for context in CONTEXTS:
        if is_telling(first, second, context):
            return context
    return None


def free_places(fragment):
    """The places, ascending, where a feed leaves the normal form as it is."""
    places = []
    for place, signs, left, right in gaps(units(fragment), None):
        form = gap_form(signs, left, right)
        for k in range(len(signs) + 1):
            # A feed that is put into a gap changes only what this gap makes.
            if gap_form(signs[:k] + "\n" + signs[k:], left, right) == form:
                places.append(place + k)
    return places
