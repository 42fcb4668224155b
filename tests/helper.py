"""What several tests need: ways to make fragments, and slow readings of the document.

The slow readings go unit by unit, by the words of the points, and import
nothing of the program, so that a fault of the program is not in them, too.
"""

import itertools
import random

MODES = ("collapse", "breaks", "preserve")
SIGNS = [chr(code) for code in range(32, 127)] + ["\n"]

# One unit for each way in which units can differ, and those of the mode
# collapse alone, which suffice where longer fragments are tried out.
ALL_UNITS = [
    ("collapse", " "), ("collapse", "\n"), ("collapse", "<"), ("collapse", "^"), ("collapse", "A"),
    ("collapse", "a"), ("collapse", "|"), ("breaks", " "), ("breaks", "\n"), ("preserve", " "),
]
COLLAPSE_UNITS = ALL_UNITS[:7]


def flow(text):
    """A fragment of the mode collapse."""
    return [("collapse", text)]


def one_by_one(row):
    """A fragment, perhaps not a tidy one, with a run for each unit."""
    return list(row)


def fragments(alphabet, most):
    """All fragments of up to so many units."""
    for many in range(most + 1):
        for row in itertools.product(alphabet, repeat=many):
            yield one_by_one(row)


def long_fragments(many, seed):
    """Fragments at the bounds, the same ones at every call: 100 runs and 400 signs."""
    source = random.Random(seed)
    for _ in range(many):
        alphabet = source.choice([" \n<>", " \n<>^", " \nAB<", " \nab>", " \n|^Aa<>", "".join(SIGNS)])
        yield [
            (source.choice(MODES), "".join(source.choice(alphabet) for _ in range(4)))
            for _ in range(100)
        ]


def slow_units(fragment):
    row = []
    for mode, text in fragment:
        row.extend((mode, sign) for sign in text)
    return row


def slow_tidy(row):
    """Point 3: the tidy fragment of a list of units."""
    return [
        (mode, "".join(sign for _, sign in group))
        for mode, group in itertools.groupby(row, lambda unit: unit[0])
    ]


def slow_kind(unit):
    """The table of point 4."""
    mode, sign = unit
    if sign == " ":
        return {"collapse": "space", "breaks": "space", "preserve": "other"}[mode]
    if sign == "\n":
        return {"collapse": "feed", "breaks": "end", "preserve": "end"}[mode]
    if sign in "<>":
        return "mark"
    return {"|": "end", "^": "zero"}.get(sign, "wide" if sign in "ABCDEFGHIJKLMNOPQRSTUVWXYZ" else "other")


def slow_is_solid(unit):
    return slow_kind(unit) not in ("space", "feed", "mark")


def slow_join(left, right):
    return "zero" in (left, right) or (left, right) == ("wide", "wide")


def slow_counts(row, number, outside):
    """Points 6 and 8: whether the unit is shown, or needed if nothing is known outside."""
    if slow_is_solid(row[number]) or slow_kind(row[number]) == "mark":
        return True
    first = behind = number
    while first > 0 and not slow_is_solid(row[first - 1]):
        first -= 1
    while behind < len(row) and not slow_is_solid(row[behind]):
        behind += 1
    left = slow_kind(row[first - 1]) if first > 0 else outside
    right = slow_kind(row[behind]) if behind < len(row) else outside
    if "end" in (left, right):
        return False
    feeds = [k for k in range(first, behind) if slow_kind(row[k]) == "feed"]
    spaces = [k for k in range(first, behind) if slow_kind(row[k]) == "space"]
    if not feeds:
        return number == spaces[0]
    if left is not None and right is not None and slow_join(left, right):
        return False
    return number == feeds[0]


def slow_sign(unit):
    return {"end": "\n", "feed": " "}.get(slow_kind(unit), unit[1])


def slow_shown(fragment):
    """Point 6."""
    row = slow_units(fragment)
    sources = [k for k in range(len(row)) if slow_counts(row, k, "end")]
    return "".join(slow_sign(row[k]) for k in sources), sources


def slow_needed(fragment):
    """Point 8: the needed units."""
    row = slow_units(fragment)
    return [row[k] for k in range(len(row)) if slow_counts(row, k, None)]


def slow_normal_form(fragment):
    """Point 9."""
    row = slow_needed(fragment)
    solid = [k for k in range(len(row)) if slow_is_solid(row[k])]
    if not solid:
        return ("".join(sign for _, sign in row), "", "")
    start = [sign for _, sign in row[:solid[0]]]
    end = [sign for _, sign in row[solid[-1] + 1:]]
    if "\n" in start and slow_kind(row[solid[0]]) == "zero":
        start.remove("\n")
        start.append("\n")
    if "\n" in end and slow_kind(row[solid[-1]]) == "zero":
        end.remove("\n")
        end.insert(0, "\n")
    core = "".join(slow_sign(unit) for unit in row[solid[0]:solid[-1] + 1])
    return ("".join(start), core, "".join(end))
