"""Signs, runs, fragments and units, and the kinds of units."""

MODES = ("collapse", "breaks", "preserve")
MOST_RUNS = 100
MOST_SIGNS = 400
# What may arrive in pieces, or stand in a document, is longer than a fragment.
MOST_UNITS = 2000
STAND_INS = {"|": "end", "^": "zero", "<": "mark", ">": "mark"}


def are_signs(text):
    """True if a string consists of signs, perhaps of none."""
    return all(" " <= sign <= "~" or sign == "\n" for sign in text)


def is_pair_of_run(thing):
    """True if thing is a tuple of a mode and a string, of whatever characters."""
    if not isinstance(thing, tuple) or len(thing) != 2:
        return False
    mode, text = thing
    # The mode may be anything: it is compared only when it is a string.
    return isinstance(mode, str) and mode in MODES and isinstance(text, str)


def is_fragment(thing):
    """True if thing, which may be anything, is a fragment within the bounds."""
    if not isinstance(thing, list) or len(thing) > MOST_RUNS:
        return False
    if not all(is_pair_of_run(run) for run in thing):
        return False
    text = "".join([run[1] for run in thing])
    return len(text) <= MOST_SIGNS and are_signs(text)


def units(fragment):
    """The list of the units of a fragment, tuples (mode, sign)."""
    return [(mode, sign) for mode, text in fragment for sign in text]


def tidy(units):
    """The tidy fragment of a list of units, of any length."""
    modes = []
    texts = []
    for mode, sign in units:
        if not modes or modes[-1] != mode:
            modes.append(mode)
            texts.append([])
        texts[-1].append(sign)
    return [(name, "".join(signs)) for name, signs in zip(modes, texts)]


def kind(mode, sign):
    """One of "space", "feed", "mark", "end", "zero", "wide" and "other"."""
    if sign == " ":
        return "other" if mode == "preserve" else "space"
    if sign == "\n":
        return "feed" if mode == "collapse" else "end"
    if "A" <= sign <= "Z":
        return "wide"
    return STAND_INS.get(sign, "other")
