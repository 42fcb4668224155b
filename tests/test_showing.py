"""Points 5 and 6: gaps, neighbors, joining, the shown text and its sources."""

import unittest

from gapsalike.showing import shown
from helper import ALL_UNITS, COLLAPSE_UNITS, MODES, SIGNS, flow, fragments, long_fragments, slow_shown


class Showing(unittest.TestCase):
    def check(self, fragment, text, sources):
        self.assertEqual(shown(fragment), (text, sources), fragment)

    def test_nothing(self):
        self.check([], "", [])
        self.check([("collapse", ""), ("preserve", "")], "", [])

    def test_the_kinds_of_values(self):
        found = shown(flow("a b"))
        self.assertIs(type(found), tuple)
        self.assertIs(type(found[0]), str)
        self.assertIs(type(found[1]), list)

    def test_no_solid_unit(self):
        self.check(flow(" \n "), "", [])
        self.check(flow(" < \n>"), "<>", [1, 4])
        self.check([("breaks", "  ")], "", [])

    def test_in_front_and_behind_nothing_white_is_shown(self):
        for solid in "aA^":
            for white in (" ", "\n", " \n", "\n "):
                self.check(flow(white + solid), solid, [len(white)])
                self.check(flow(solid + white), solid, [0])
        self.check(flow(" < a > "), "<a>", [1, 3, 5])

    def test_between_two_others_one_space(self):
        self.check(flow("a b"), "a b", [0, 1, 2])
        self.check(flow("a   b"), "a b", [0, 1, 4])
        self.check(flow("a\n\nb"), "a b", [0, 1, 3])

    def test_the_first_feed_goes_before_the_first_space(self):
        self.check(flow("a  \n \nb"), "a b", [0, 3, 6])
        self.check(flow("a <\n>b"), "a< >b", [0, 2, 3, 4, 5])

    def test_spaces_between_all_neighbors(self):
        for left in "aA^":
            for right in "aB^":
                self.check(flow(left + "  " + right), left + " " + right, [0, 1, 3])

    def test_feeds_between_neighbors_that_join(self):
        for left, right in ("^a", "a^", "^^", "^A", "A^", "AB", "ZA"):
            for white in ("\n", "\n ", " \n", "\n\n", " < \n"):
                marks = white.replace(" ", "").replace("\n", "")
                self.assertEqual(shown(flow(left + white + right))[0], left + marks + right)

    def test_feeds_between_neighbors_that_do_not_join(self):
        for left, right in ("aA", "Aa", "ab", "a!", "A1"):
            self.check(flow(left + " \n" + right), left + " " + right, [0, 2, 3])

    def test_beside_a_line_end_nothing_white_is_shown(self):
        self.check(flow("a | b"), "a\nb", [0, 2, 4])
        self.check(flow("a \n|\n\nb"), "a\nb", [0, 3, 6])
        self.check([("collapse", "a "), ("breaks", "\n"), ("collapse", " b")], "a\nb", [0, 2, 4])
        self.check([("collapse", "a "), ("preserve", "\n"), ("breaks", " b")], "a\nb", [0, 2, 4])
        self.check(flow("^ < |"), "^<\n", [0, 2, 4])
        self.check(flow("| |"), "\n\n", [0, 2])

    def test_line_ends_of_all_modes(self):
        for mode in MODES:
            self.check([(mode, "a|b")], "a\nb", [0, 1, 2])
        self.check([("breaks", "a\nb")], "a\nb", [0, 1, 2])
        self.check([("preserve", "a\n\nb")], "a\n\nb", [0, 1, 2, 3])

    def test_preserved_spaces_are_solid(self):
        self.check([("preserve", "  a  ")], "  a  ", [0, 1, 2, 3, 4])
        self.check([("preserve", " "), ("collapse", " \n "), ("preserve", " ")], "   ", [0, 2, 4])
        self.check([("collapse", "A\n"), ("preserve", " ")], "A  ", [0, 1, 2])

    def test_spaces_of_the_mode_breaks_are_white(self):
        self.check([("breaks", " a  b ")], "a b", [1, 2, 4])
        self.check([("collapse", "a"), ("breaks", " "), ("collapse", " b")], "a b", [0, 1, 3])
        self.check([("collapse", "A"), ("breaks", " "), ("collapse", "\nB")], "AB", [0, 3])

    def test_marks_keep_their_places(self):
        self.check(flow("a<>b"), "a<>b", [0, 1, 2, 3])
        self.check(flow("a< > b"), "a< >b", [0, 1, 2, 3, 5])
        self.check(flow("a<>  b"), "a<> b", [0, 1, 2, 3, 5])
        self.check([("collapse", "a "), ("preserve", "<"), ("collapse", " b")], "a <b", [0, 1, 2, 4])

    def test_marks_do_not_join_nor_part(self):
        self.check(flow("A<\n>B"), "A<>B", [0, 1, 3, 4])
        self.check(flow("A<\n>b"), "A< >b", [0, 1, 2, 3, 4])

    def test_a_gap_across_runs(self):
        self.check([("collapse", "a "), ("breaks", " "), ("collapse", "\nb")], "a b", [0, 3, 4])

    def test_how_it_is_divided_into_runs_does_not_matter(self):
        for fragment in fragments(ALL_UNITS[:4], 4):
            text = "".join(sign for _, sign in fragment)
            padded = [run for unit in fragment for run in (("preserve", ""), unit, ("collapse", ""))]
            self.assertEqual(shown(fragment), shown(flow(text)))
            self.assertEqual(shown(fragment), shown(padded))

    def test_every_sign_alone(self):
        for mode in MODES:
            for sign in SIGNS:
                self.assertEqual(shown([(mode, sign)]), slow_shown([(mode, sign)]), (mode, sign))

    def test_all_short_contents(self):
        for fragment in [*fragments(ALL_UNITS, 4), *fragments(COLLAPSE_UNITS, 5)]:
            self.assertEqual(shown(fragment), slow_shown(fragment), fragment)

    def test_long_contents(self):
        for fragment in long_fragments(30, 6):
            self.assertEqual(shown(fragment), slow_shown(fragment), fragment)


if __name__ == "__main__":
    unittest.main()
