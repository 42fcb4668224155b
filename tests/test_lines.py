"""Points 14, 15 and 16: breaking places, and what is laid out in lines."""

import itertools
import random
import unittest

from gapsalike.lines import breaking_places, laid_out
from helper import (
    ALL_UNITS, COLLAPSE_UNITS, MODES, flow, fragments, long_fragments, slow_is_solid, slow_join, slow_kind,
    slow_needed, slow_normal_form, slow_tidy, slow_units,
)

FEED = ("collapse", "\n")
SPACE = ("collapse", " ")


def slow_is_white(unit):
    return slow_kind(unit) in ("space", "feed")


def slow_neighbors(row, left, right):
    """The kinds of the nearest solid units from left on to the front, and from right on to the back."""
    while left >= 0 and not slow_is_solid(row[left]):
        left -= 1
    while right < len(row) and not slow_is_solid(row[right]):
        right += 1
    return (
        slow_kind(row[left]) if left >= 0 else None, slow_kind(row[right]) if right < len(row) else None,
        row[left + 1:right],
    )


def slow_is_soft(row, k):
    left, right, _ = slow_neighbors(row, k - 1, k + 1)
    if not slow_is_white(row[k]) or row[k][0] != "collapse" or None in (left, right):
        return False
    return "end" not in (left, right) and not slow_join(left, right)


def slow_is_open(row, k):
    if k == 0:
        return False
    for unit in (row[k - 1], row[k]):
        if unit[0] != "collapse" or slow_is_white(unit):
            return False
    left, right, gap = slow_neighbors(row, k - 1, k)
    if any(slow_is_white(unit) for unit in gap):
        return False
    return "end" in (left, right) or (None not in (left, right) and slow_join(left, right))


def slow_places(row):
    """Point 14, for the needed units."""
    places = []
    for k in range(len(row)):
        if slow_is_soft(row, k):
            places.append(("soft", k))
        if slow_is_open(row, k):
            places.append(("open", k))
    return places


def slow_rest(row, places, k):
    """Point 15: the number r at the breaking place k."""
    soft = ("soft", k) in places
    number = k + 1 if soft else k
    many = 0
    while number < len(row):
        if number > k and (("soft", number) in places or ("open", number) in places):
            break
        if row[number][1] == "\n" and ("soft", number) not in places:
            break
        many += 1
        number += 1
    return many


def slow_column(out):
    text = "".join(sign for _, sign in out)
    return len(text) - (text.rfind("\n") + 1)


def slow_fits(row, places, k, out, width):
    """Point 15: whether a breaking place may be left unbroken behind what is laid out so far."""
    more = 1 if ("soft", k) in places else 0
    return slow_column(out) + more + slow_rest(row, places, k) <= width


def slow_put(row, places, k, out, indent, broken):
    """Lays out one needed unit, perhaps with a break in its place or in front of it."""
    soft = ("soft", k) in places
    if broken:
        out.extend([FEED] + [SPACE] * indent)
    elif soft:
        out.append(SPACE)
    if not soft:
        out.append(row[k])


def slow_laid_out(fragment, width, indent):
    row = slow_needed(fragment)
    places = slow_places(row)
    out = []
    breaks = 0
    for k in range(len(row)):
        here = ("soft", k) in places or ("open", k) in places
        broken = here and not slow_fits(row, places, k, out, width)
        breaks += broken
        slow_put(row, places, k, out, indent, broken)
    return slow_tidy(out), breaks


def all_choices(row, places, width, indent):
    """How many breaks each choice has in which each place that is left unbroken fits."""
    numbers = [k for _, k in places]
    for choice in itertools.product((False, True), repeat=len(numbers)):
        broken = dict(zip(numbers, choice))
        out = []
        fits = True
        for k in range(len(row)):
            if k in broken and not broken[k]:
                fits = fits and slow_fits(row, places, k, out, width)
            slow_put(row, places, k, out, indent, broken.get(k, False))
        if fits:
            yield sum(choice)


def unbroken_lines(row, places, out, indent):
    """The lengths of the lines of what is laid out in which a breaking place was left unbroken."""
    line = 0
    lines = []
    left = []
    number = 0
    for k in range(len(row)):
        soft = ("soft", k) in places
        if soft or ("open", k) in places:
            if out[number] == FEED:
                lines.append(line)
                assert out[number + 1:number + 1 + indent] == [SPACE] * indent
                number += 1 + indent
                line = indent
            else:
                left.append(len(lines))
                number += soft
                line += soft
        if not soft:
            assert out[number] == row[k]
            number += 1
            line += 1
            if row[k][1] == "\n":
                lines.append(line - 1)
                line = 0
    assert number == len(out)
    lines.append(line)
    return [lines[k] for k in left]


class BreakingPlaces(unittest.TestCase):
    def check(self, fragment, expected):
        self.assertEqual(breaking_places(fragment), expected, fragment)

    def test_none(self):
        for text in ("", " ", "\n", "a", "ab", "a<b", " a ", "\na\n", "< >", "<>", "A B", "^ a", "<a", "a>", "\n|"):
            self.check(flow(text), [])

    def test_the_kinds_of_values(self):
        found = breaking_places(flow("a b"))
        self.assertIs(type(found), list)
        self.assertEqual([type(part) for part in found[0]], [str, int])
        self.assertIs(type(found[0]), tuple)

    def test_soft_ones(self):
        self.check(flow("a b"), [("soft", 1)])
        self.check(flow("a\nb"), [("soft", 1)])
        self.check(flow("a B\nc A"), [("soft", 1), ("soft", 3), ("soft", 5)])
        self.check(flow("a <> b"), [("soft", 1)])
        self.check(flow("a< >b"), [("soft", 2)])

    def test_they_are_counted_in_the_shortened_fragment(self):
        self.check(flow("  a  \n b"), [("soft", 2)])
        self.check(flow(" | \n A \n B"), [("open", 1), ("open", 2)])

    def test_open_ones_where_both_neighbors_join(self):
        self.check(flow("ABC"), [("open", 1), ("open", 2)])
        self.check(flow("a^b"), [("open", 1), ("open", 2)])
        self.check(flow("A<>B"), [("open", 1), ("open", 2), ("open", 3)])
        self.check(flow("A\nB"), [("open", 1)])

    def test_open_ones_beside_line_ends(self):
        self.check(flow("a|b"), [("open", 1), ("open", 2)])
        self.check(flow("||"), [("open", 1)])
        self.check(flow(" <| > "), [("open", 1), ("open", 2)])
        self.check(flow("a < |"), [("open", 1), ("open", 2)])
        self.check([("breaks", "\n"), ("collapse", "<>a")], [("open", 2), ("open", 3)])

    def test_only_beside_units_of_the_mode_collapse(self):
        for mode in ("breaks", "preserve"):
            self.check([(mode, "AB")], [])
            self.check([(mode, "a|b")], [])
            self.check([("collapse", "A"), (mode, "B"), ("collapse", "C")], [])
            self.check([("collapse", "A<"), (mode, ">"), ("collapse", "B")], [("open", 1)])
            self.check([(mode, "A"), ("collapse", "<>"), (mode, "B")], [("open", 2)])
            self.check([(mode, "a"), ("collapse", " "), (mode, "b")], [("soft", 1)])
            self.check([("collapse", "a"), (mode, " "), ("collapse", "b")], [])

    def test_a_gap_with_a_needed_white_unit_has_no_open_ones(self):
        self.check(flow("A< >B"), [])
        self.check(flow("^< "), [])
        self.check([("collapse", "A<>"), ("breaks", " "), ("collapse", "<>B")], [])

    def test_unknown_neighbors_have_none(self):
        self.check(flow("<>A"), [])
        self.check(flow("^<>"), [])
        self.check(flow("\n<A B>\n"), [])

    def test_all_short_fragments(self):
        for fragment in [*fragments(ALL_UNITS, 4), *fragments(COLLAPSE_UNITS, 5)]:
            self.assertEqual(breaking_places(fragment), slow_places(slow_needed(fragment)), fragment)

    def test_short_fragments_of_every_mode(self):
        rows = [(mode, sign) for mode in MODES for sign in " \n>^Zz|"]
        for fragment in fragments(rows, 3):
            self.assertEqual(breaking_places(fragment), slow_places(slow_needed(fragment)), fragment)

    def test_long_fragments(self):
        for fragment in long_fragments(30, 14):
            self.assertEqual(breaking_places(fragment), slow_places(slow_needed(fragment)), fragment)


class LaidOut(unittest.TestCase):
    def check(self, fragment, width, indent, expected, breaks):
        self.assertEqual(laid_out(fragment, width, indent), (expected, breaks), (fragment, width, indent))

    def test_nothing(self):
        self.check([], 1, 0, [], 0)
        self.check([("breaks", ""), ("collapse", "")], 100, 20, [], 0)

    def test_the_kinds_of_values(self):
        found = laid_out(flow("a b"), 1, 0)
        self.assertEqual([type(part) for part in found], [list, int])
        self.assertIs(type(found), tuple)
        self.assertEqual([type(part) for part in found[0]], [tuple])

    def test_soft_places_become_spaces_or_breaks(self):
        self.check(flow("ab  cd\nef"), 8, 0, flow("ab cd ef"), 0)
        self.check(flow("ab  cd\nef"), 7, 0, flow("ab cd\nef"), 1)
        self.check(flow("ab  cd\nef"), 5, 0, flow("ab cd\nef"), 1)
        self.check(flow("ab  cd\nef"), 4, 0, flow("ab\ncd\nef"), 2)
        self.check(flow("ab  cd\nef"), 1, 0, flow("ab\ncd\nef"), 2)

    def test_open_places(self):
        self.check(flow("ABCD"), 4, 0, flow("ABCD"), 0)
        self.check(flow("ABCD"), 3, 0, flow("ABC\nD"), 1)
        self.check(flow("ABCD"), 2, 0, flow("AB\nCD"), 1)
        self.check(flow("ABCD"), 1, 0, flow("A\nB\nC\nD"), 3)
        self.check(flow("ab|cd"), 3, 0, flow("ab|\ncd"), 1)
        self.check(flow("ab|cd"), 2, 0, flow("ab\n|\ncd"), 2)

    def test_the_indentation(self):
        self.check(flow("ab cd ef"), 7, 2, flow("ab cd\n  ef"), 1)
        self.check(flow("ab cd ef gh"), 7, 2, flow("ab cd\n  ef gh"), 1)
        self.check(flow("ab cd ef gh"), 6, 2, flow("ab cd\n  ef\n  gh"), 2)
        self.check(flow("ABCD"), 2, 1, flow("AB\n C\n D"), 2)
        self.check(flow("ABCD"), 2, 20, flow("AB\n" + " " * 20 + "C\n" + " " * 20 + "D"), 2)
        self.check(flow("a b"), 3, 20, flow("a b"), 0)

    def test_what_is_not_at_a_breaking_place_is_not_broken(self):
        self.check(flow("abcdefgh"), 1, 3, flow("abcdefgh"), 0)
        self.check(flow("A B C"), 1, 0, flow("A B C"), 0)
        self.check([("preserve", "a b c")], 1, 0, [("preserve", "a b c")], 0)
        self.check([("breaks", "a b  c")], 1, 0, [("breaks", "a b c")], 0)
        self.check(flow(" aaaa b "), 3, 0, flow(" aaaa\nb "), 1)

    def test_the_rest_goes_up_to_the_next_breaking_place(self):
        # Only the units up to the next place must fit, and a soft place's own unit is not counted.
        self.check(flow("a bbb c"), 5, 0, flow("a bbb\nc"), 1)
        self.check(flow("aaa Bc"), 5, 0, flow("aaa\nBc"), 1)
        self.check(flow("aaa BC"), 5, 0, flow("aaa B\nC"), 1)
        self.check(flow("aaa< >bb"), 6, 0, flow("aaa<\n>bb"), 1)
        self.check(flow("aaa< >bb"), 8, 0, flow("aaa< >bb"), 0)

    def test_line_feeds_of_the_modes_breaks_and_preserve(self):
        for mode in ("breaks", "preserve"):
            fragment = [("collapse", "ab cd"), (mode, "\n"), ("collapse", "ef gh")]
            self.check(fragment, 5, 2, fragment, 0)
            self.check(
                fragment, 4, 2, [("collapse", "ab\n  cd"), (mode, "\n"), ("collapse", "ef\n  gh")], 2
            )
            # The column is 0 behind the line feed, whatever the indentation is.
            self.check([("collapse", "AB"), (mode, "\n"), ("collapse", "CDE")], 2, 1,
                       [("collapse", "AB"), (mode, "\n"), ("collapse", "CD\n E")], 1)

    def test_the_line_feed_itself_is_not_counted(self):
        self.check([("collapse", "a b"), ("breaks", "\nccc")], 3, 0, [("collapse", "a b"), ("breaks", "\nccc")], 0)
        self.check([("collapse", "a b"), ("breaks", "\nccc")], 2, 0, [("collapse", "a\nb"), ("breaks", "\nccc")], 1)

    def test_feeds_at_the_borders_are_laid_out_as_they_are(self):
        self.check(flow("\nab cd\n"), 5, 3, flow("\nab cd\n"), 0)
        self.check(flow("<<\nab cd"), 5, 0, flow("<<\nab cd"), 0)
        self.check(flow("\nab cd\n"), 4, 3, flow("\nab\n   cd\n"), 1)
        self.check(flow("ab cd<\n>>>"), 6, 0, flow("ab cd<\n>>>"), 0)
        self.check(flow("ab cd< >>>"), 6, 0, flow("ab\ncd< >>>"), 1)

    def test_a_feed_in_front_of_a_forced_break_is_no_unit(self):
        self.check(flow("ab \n | \n cd"), 5, 0, flow("ab|cd"), 0)

    def test_the_modes_remain(self):
        fragment = [("preserve", "a"), ("collapse", " "), ("breaks", "b"), ("collapse", "\n"), ("preserve", "c")]
        self.check(fragment, 3, 1, [("preserve", "a"), ("collapse", " "), ("breaks", "b"), ("collapse", "\n "),
                                    ("preserve", "c")], 1)

    def test_the_result_is_tidy(self):
        for fragment in fragments(ALL_UNITS, 3):
            found = laid_out(fragment, 2, 1)[0]
            self.assertEqual(found, slow_tidy(slow_units(found)))

    def test_the_bounds_of_the_width_and_of_the_indentation(self):
        word = "a" * 49
        self.check(flow(word + " " + word + "b c"), 100, 20, flow(word + " " + word + "b\n" + " " * 20 + "c"), 1)
        self.check(flow(word + " " + word + " c"), 100, 20, flow(word + " " + word + "\n" + " " * 20 + "c"), 1)
        self.check(flow(word + " " + word + "<"), 100, 20, flow(word + " " + word + "<"), 0)

    def test_all_short_fragments(self):
        for fragment in fragments(ALL_UNITS, 4):
            for width, indent in ((1, 0), (2, 1)):
                expected = slow_laid_out(fragment, width, indent)
                self.assertEqual(laid_out(fragment, width, indent), expected, (fragment, width, indent))

    def test_fragments_in_which_each_width_matters(self):
        source = random.Random(15)
        for _ in range(400):
            alphabet = source.choice([" ab", "AB^", " aB\n", "A<>|b ", " \n|^Aa<"])
            fragment = [
                (source.choice(MODES) if source.random() < 0.3 else "collapse",
                 "".join(source.choice(alphabet) for _ in range(source.randrange(6))))
                for _ in range(source.randrange(8))
            ]
            for width, indent in itertools.product((1, 2, 3, 4, 5, 7, 10), (0, 1, 4)):
                expected = slow_laid_out(fragment, width, indent)
                self.assertEqual(laid_out(fragment, width, indent), expected, (fragment, width, indent))

    def test_long_fragments(self):
        for fragment in long_fragments(8, 15):
            for width, indent in ((1, 20), (3, 0), (10, 4), (40, 2), (100, 20)):
                expected = slow_laid_out(fragment, width, indent)
                self.assertEqual(laid_out(fragment, width, indent), expected, (fragment, width, indent))


class TheFacts(unittest.TestCase):
    def test_what_is_laid_out_is_alike(self):
        for fragment in fragments(ALL_UNITS, 4):
            form = slow_normal_form(fragment)
            for width, indent in ((1, 0), (1, 2), (2, 1)):
                found = laid_out(fragment, width, indent)[0]
                self.assertEqual(slow_normal_form(found), form, (fragment, width, indent))
        for fragment in long_fragments(10, 16):
            form = slow_normal_form(fragment)
            for width, indent in ((1, 20), (5, 0), (30, 3)):
                self.assertEqual(slow_normal_form(laid_out(fragment, width, indent)[0]), form)

    def test_no_line_that_is_too_long_has_a_place_left_unbroken(self):
        rows = [*fragments(COLLAPSE_UNITS, 4), *long_fragments(10, 17)]
        for fragment in rows:
            row = slow_needed(fragment)
            places = slow_places(row)
            for width, indent in ((1, 0), (2, 0), (3, 2), (9, 4)):
                found, breaks = laid_out(fragment, width, indent)
                lines = unbroken_lines(row, places, slow_units(found), indent)
                self.assertEqual(breaks, len(places) - len(lines), (fragment, width, indent))
                self.assertLessEqual(max(lines, default=0), width, (fragment, width, indent))

    def test_no_choice_has_fewer_breaks(self):
        alphabet = [("collapse", " "), ("collapse", "<"), ("collapse", "A"), ("collapse", "a"), ("collapse", "|"),
                    ("breaks", "\n")]
        rows = [row for row in fragments(alphabet, 5) if len(slow_places(slow_needed(row))) > 1]
        for fragment in rows[::3]:
            row = slow_needed(fragment)
            places = slow_places(row)
            for width, indent in ((2, 0), (3, 1), (4, 2)):
                least = min(all_choices(row, places, width, indent))
                self.assertEqual(laid_out(fragment, width, indent)[1], least, (fragment, width, indent))

    def test_no_choice_has_fewer_breaks_in_longer_ones(self):
        for text in ("aa b ccc d ee", "ABaCD<E", "a|b|c d e", "A b C<D E^f", "aaa b|<> c ABC"):
            row = slow_needed(flow(text))
            places = slow_places(row)
            for width, indent in itertools.product(range(1, 9), (0, 1, 3)):
                least = min(all_choices(row, places, width, indent))
                self.assertEqual(laid_out(flow(text), width, indent)[1], least, (text, width, indent))


if __name__ == "__main__":
    unittest.main()
