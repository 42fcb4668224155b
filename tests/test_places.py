"""Point 13: free places."""

import unittest

from gapsalike.forms import free_places
from helper import ALL_UNITS, MODES, flow, fragments, long_fragments, slow_normal_form, slow_units


def slow_free_places(fragment):
    row = slow_units(fragment)
    form = slow_normal_form(fragment)
    return [k for k in range(len(row) + 1) if slow_normal_form(row[:k] + flow("\n") + row[k:]) == form]


class FreePlaces(unittest.TestCase):
    def check(self, text, expected):
        self.assertEqual(free_places(flow(text)), expected, text)

    def test_nothing(self):
        self.check("", [])
        self.assertEqual(free_places([]), [])

    def test_the_kinds_of_values(self):
        found = free_places(flow("AB"))
        self.assertIs(type(found), list)
        self.assertIs(type(found[0]), int)

    def test_around_a_shown_space(self):
        self.check("a b", [1, 2])
        self.check("a  b", [1, 2, 3])
        self.check("a < b", [1, 2])
        self.check("a<b", [])

    def test_between_neighbors_that_join(self):
        self.check("AB", [1])
        self.check("A<B", [1, 2])
        self.check("A B", [])
        self.check("A\nB", [1, 2])
        self.check("A \nB", [1, 2, 3])
        self.check("^a^", [1, 2])

    def test_beside_line_ends(self):
        self.check("x|y", [1, 2])
        self.check("|", [0, 1])
        self.check(" <| ", [0, 1, 2, 3, 4])
        self.assertEqual(free_places([("breaks", "a\nb")]), [1, 2])
        self.assertEqual(free_places([("preserve", "a\n\nb")]), [1, 2, 3])

    def test_at_the_borders(self):
        self.check("a", [])
        self.check(" a ", [])
        self.check("\na\n", [0, 1, 2, 3])
        self.check("<\n>a", [1, 2, 3])
        self.check("a<\n>", [2, 3, 4])

    def test_in_front_of_and_behind_a_zero_width_unit(self):
        self.check("<\n>^", [0, 1, 2, 3])
        self.check("^<\n>", [1, 2, 3, 4])
        self.check("< ^", [])
        self.check("^", [])

    def test_no_solid_unit(self):
        self.check("\n", [0, 1])
        self.check("<\n<", [1, 2, 3])
        self.check(" ", [])

    def test_preserved_spaces(self):
        self.assertEqual(free_places([("preserve", "a b")]), [])
        self.assertEqual(free_places([("preserve", "A B")]), [])
        self.assertEqual(free_places([("preserve", "AB")]), [1])

    def test_all_short_fragments(self):
        for fragment in fragments(ALL_UNITS, 4):
            self.assertEqual(free_places(fragment), slow_free_places(fragment), fragment)

    def test_short_fragments_of_every_mode(self):
        rows = [(mode, sign) for mode in MODES for sign in " \n>^Zz|"]
        for fragment in fragments(rows, 2):
            self.assertEqual(free_places(fragment), slow_free_places(fragment), fragment)

    def test_long_fragments(self):
        for fragment in long_fragments(4, 13):
            short = fragment[:30]
            self.assertEqual(free_places(short), slow_free_places(short), short)

    def test_no_context_tells_white_units_that_begin_with_a_feed(self):
        for fragment in fragments(ALL_UNITS, 3):
            form = slow_normal_form(fragment)
            for place in free_places(fragment):
                for text in ("\n ", "\n\n", "\n  \n "):
                    row = fragment[:place] + flow(text) + fragment[place:]
                    self.assertEqual(slow_normal_form(row), form, (fragment, place, text))


if __name__ == "__main__":
    unittest.main()
