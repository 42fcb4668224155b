"""Points 17 and 18: contents that arrive in pieces."""

import copy
import itertools
import os.path
import random
import unittest

from gapsalike.errors import GapsError
from gapsalike.pieces import Stream, certain, undecided
from helper import (
    ALL_UNITS, COLLAPSE_UNITS, MODES, flow, fragments, long_fragments, slow_is_solid, slow_kind, slow_shown, slow_tidy,
    slow_units,
)


def slow_undecided(fragment):
    """Point 17."""
    row = slow_units(fragment)
    solid = [k for k in range(len(row)) if slow_is_solid(row[k])]
    left = slow_kind(row[solid[-1]]) if solid else "end"
    gap = range(solid[-1] + 1 if solid else 0, len(row))
    if left == "end":
        return None
    feeds = [k for k in gap if slow_kind(row[k]) == "feed"]
    spaces = [k for k in gap if slow_kind(row[k]) == "space"]
    if feeds:
        return None if left == "zero" else feeds[0]
    return spaces[0] if spaces else None


def slow_certain(fragment):
    number = slow_undecided(fragment)
    row = slow_units(fragment)
    return slow_shown(row if number is None else row[:number])[0]


def common_beginning(texts):
    return os.path.commonprefix(texts)


def all_pieces(row):
    """All ways to divide a list of units into pieces that are not empty."""
    for cuts in itertools.product((False, True), repeat=max(len(row) - 1, 0)):
        pieces = [[]]
        for unit, cut in zip(row, (False, *cuts)):
            if cut:
                pieces.append([])
            pieces[-1].append(unit)
        yield pieces


class Undecided(unittest.TestCase):
    def check(self, text, number, told):
        self.assertEqual(undecided(flow(text)), number, text)
        self.assertEqual(certain(flow(text)), told, text)

    def test_nothing(self):
        self.check("", None, "")
        self.assertIsNone(undecided([]))
        self.assertEqual(certain([]), "")

    def test_the_kinds_of_values(self):
        self.assertIs(type(undecided(flow("a "))), int)
        self.assertIs(type(certain(flow("a "))), str)

    def test_the_start_is_a_line_end(self):
        for text in (" ", "\n", " \n ", " \n"):
            self.check(text, None, "")
        self.check(" < \n>", None, "<>")

    def test_behind_a_line_end(self):
        self.check("a| ", None, "a\n")
        self.check("a \n|\n <", None, "a\n<")
        for mode in ("breaks", "preserve"):
            fragment = [("collapse", "a "), (mode, "\n"), ("collapse", " <\n")]
            self.assertIsNone(undecided(fragment))
            self.assertEqual(certain(fragment), "a\n<")

    def test_the_first_feed_or_the_first_space(self):
        for solid in "aA":
            self.check(solid + " ", 1, solid)
            self.check(solid + "  ", 1, solid)
            self.check(solid + "\n\n", 1, solid)
            self.check(solid + " \n ", 2, solid)
            self.check(solid + " <\n>", 3, solid + "<")
            self.check(solid + "< >", 2, solid + "<")
            self.check(solid + "<>", None, solid + "<>")

    def test_behind_a_zero_width_unit(self):
        self.check("^ ", 1, "^")
        self.check("^<  >", 2, "^<")
        self.check("^\n", None, "^")
        self.check("^ <\n>", None, "^<>")
        self.check("^\n ", None, "^")

    def test_only_the_last_gap(self):
        self.check("a b", None, "a b")
        self.check(" a \n b  ", 6, "a b")
        self.check("A\nB\n", 3, "AB")
        self.check("a b^", None, "a b^")

    def test_the_other_modes(self):
        self.assertEqual(undecided([("breaks", "a ")]), 1)
        self.assertIsNone(undecided([("preserve", "a ")]))
        self.assertEqual(certain([("preserve", "a ")]), "a ")
        self.assertEqual(undecided([("preserve", "a "), ("breaks", "<  ")]), 3)
        self.assertEqual(undecided([("preserve", " "), ("breaks", " "), ("collapse", "\n")]), 2)

    def test_all_short_beginnings(self):
        for fragment in [*fragments(ALL_UNITS, 4), *fragments(COLLAPSE_UNITS, 5), *long_fragments(20, 17)]:
            self.assertEqual(undecided(fragment), slow_undecided(fragment), fragment)
            self.assertEqual(certain(fragment), slow_certain(fragment), fragment)

    def test_short_beginnings_of_every_mode(self):
        rows = [(mode, sign) for mode in MODES for sign in " \n>^Zz|"]
        for fragment in fragments(rows, 2):
            self.assertEqual(undecided(fragment), slow_undecided(fragment), fragment)
            self.assertEqual(certain(fragment), slow_certain(fragment), fragment)

    def test_it_is_the_longest_common_beginning(self):
        more = list(fragments(ALL_UNITS, 2))
        for fragment in fragments(ALL_UNITS, 2):
            texts = [slow_shown(fragment + rest)[0] for rest in more]
            self.assertEqual(certain(fragment), common_beginning(texts), fragment)
        more = list(fragments(ALL_UNITS, 1))
        for fragment in fragments(ALL_UNITS, 4):
            texts = [slow_shown(fragment + rest)[0] for rest in more]
            self.assertEqual(certain(fragment), common_beginning(texts), fragment)

    def test_it_only_ever_grows(self):
        for fragment in fragments(ALL_UNITS, 3):
            told = certain(fragment)
            for unit in ALL_UNITS:
                self.assertTrue(certain(fragment + [unit]).startswith(told), (fragment, unit))


class Streams(unittest.TestCase):
    def assert_reason(self, reason, function, *arguments):
        with self.assertRaises(GapsError) as caught:
            function(*arguments)
        self.assertEqual(caught.exception.reason, reason)

    def test_at_first_nothing(self):
        stream = Stream()
        self.assertEqual(stream.content(), [])
        self.assertEqual(stream.end(), "")
        self.assertEqual(stream.content(), [])

    def test_the_signs_that_become_certain(self):
        stream = Stream()
        self.assertEqual(stream.push(flow("A <")), "A")
        self.assertEqual(stream.push(flow("> ")), "")
        self.assertEqual(stream.push([]), "")
        self.assertEqual(stream.push(flow("b ")), " <>b")
        self.assertEqual(stream.push([("breaks", " "), ("preserve", " c")]), "  c")
        self.assertEqual(stream.push(flow("\n<")), "")
        self.assertEqual(stream.end(), "<")
        self.assertEqual(
            stream.content(), [("collapse", "A <> b "), ("breaks", " "), ("preserve", " c"), ("collapse", "\n<")]
        )

    def test_streams_do_not_share_anything(self):
        one = Stream()
        two = Stream()
        one.push(flow("a"))
        one.end()
        self.assertEqual(two.content(), [])
        self.assertEqual(two.push(flow("b")), "b")
        self.assertEqual(one.content(), flow("a"))

    def test_all_pieces_of_short_contents(self):
        for row in fragments(COLLAPSE_UNITS, 4):
            whole = slow_shown(row)[0]
            for pieces in all_pieces(row):
                self.check_pieces(pieces, whole)

    def check_pieces(self, pieces, whole):
        stream = Stream()
        told = ""
        arrived = []
        for piece in pieces:
            arrived = arrived + piece
            told += stream.push(piece)
            self.assertEqual(told, slow_certain(arrived), pieces)
        self.assertEqual(stream.content(), slow_tidy(slow_units(arrived)))
        self.assertEqual(told + stream.end(), whole, pieces)

    def test_long_contents_in_pieces(self):
        for fragment in long_fragments(6, 18):
            pieces = [fragment[k:k + 3] for k in range(0, 100, 3)]
            self.check_pieces(pieces, slow_shown(fragment)[0])

    def test_the_beginnings_of_several_contents_and_what_can_follow(self):
        source = random.Random(18)
        for fragment in long_fragments(6, 19):
            row = slow_units(fragment)[:60]
            stream = Stream()
            told = ""
            for k in range(len(row)):
                told += stream.push([row[k]])
                for _ in range(3):
                    rest = [source.choice(ALL_UNITS) for _ in range(source.randrange(6))]
                    self.assertTrue(slow_shown(row[:k + 1] + rest)[0].startswith(told), (row[:k + 1], rest))

    def test_behind_the_end(self):
        stream = Stream()
        stream.push(flow("a < "))
        self.assertEqual(stream.end(), "<")
        for fragment in ([], flow("b"), flow("b" * 400)):
            self.assert_reason("ended", stream.push, fragment)
        self.assert_reason("ended", stream.end)
        self.assertEqual(stream.content(), flow("a < "))

    def test_ended_goes_before_too_long(self):
        stream = Stream()
        for _ in range(5):
            stream.push(flow("a" * 400))
        stream.end()
        self.assert_reason("ended", stream.push, flow("a"))
        self.assertEqual(stream.content(), flow("a" * 2000))

    def test_two_thousand_units_at_most(self):
        stream = Stream()
        for _ in range(4):
            self.assertEqual(stream.push(flow("ab " + "c" * 397)), "ab " + "c" * 397)
        self.assertEqual(stream.push(flow("d" * 399)), "d" * 399)
        self.assert_reason("too long", stream.push, flow("ab"))
        self.assertEqual(stream.push(flow(" ")), "")
        self.assert_reason("too long", stream.push, flow("e"))
        self.assertEqual(stream.push([("breaks", "")]), "")
        self.assertEqual(stream.end(), "")
        self.assertEqual(stream.content(), flow(("ab " + "c" * 397) * 4 + "d" * 399 + " "))

    def test_a_push_that_is_too_long_changes_nothing(self):
        stream = Stream()
        for _ in range(4):
            stream.push(flow("a" * 400))
        stream.push(flow("a" * 390 + " "))
        before = copy.deepcopy(stream.content())
        self.assert_reason("too long", stream.push, flow("b" * 10))
        self.assertEqual(stream.content(), before)
        self.assertEqual(stream.push(flow("c" * 9)), " " + "c" * 9)
        self.assertEqual(stream.end(), "")

    def test_white_units_count_too(self):
        stream = Stream()
        for _ in range(5):
            self.assertEqual(stream.push(flow(" " * 400)), "")
        self.assert_reason("too long", stream.push, flow(" "))
        self.assertEqual(stream.end(), "")

    def test_unit_by_unit_up_to_the_bound(self):
        stream = Stream()
        told = "".join([stream.push([("collapse", "a b\n"[k % 4])]) for k in range(2000)])
        self.assertEqual(told + stream.end(), "a b " * 499 + "a b")

    def test_what_was_passed_and_returned_belongs_to_the_caller(self):
        stream = Stream()
        fragment = flow("a ")
        stream.push(fragment)
        self.assertEqual(fragment, flow("a "))
        fragment.append(("collapse", "b"))
        stream.content().clear()
        self.assertEqual(stream.content(), flow("a "))
        self.assertEqual(stream.push(flow("c")), " c")


if __name__ == "__main__":
    unittest.main()
