"""Points 3 and 4: signs, runs, fragments, units, tidy fragments, kinds."""

import unittest

from gapsalike.fragments import is_fragment, kind, tidy, units
from helper import ALL_UNITS, MODES, SIGNS, flow, fragments, long_fragments, slow_kind


class EqualToAll:
    """Something that is no string, but says that it is equal to any."""

    def __eq__(self, other):
        return True

    __hash__ = None


class WhatIsAFragment(unittest.TestCase):
    def test_ordinary_fragments(self):
        self.assertIs(is_fragment([("collapse", "a b"), ("breaks", "c\nd"), ("preserve", "  ")]), True)
        self.assertIs(is_fragment([("collapse", "a"), ("collapse", "b")]), True)

    def test_nothing_and_empty_runs(self):
        self.assertIs(is_fragment([]), True)
        self.assertIs(is_fragment([("collapse", "")]), True)
        self.assertIs(is_fragment([("preserve", ""), ("preserve", ""), ("breaks", "")]), True)

    def test_every_sign_in_every_mode(self):
        for mode in MODES:
            for sign in SIGNS:
                self.assertIs(is_fragment([(mode, sign)]), True, (mode, sign))

    def test_characters_that_are_no_signs(self):
        for code in [*range(0, 10), *range(11, 32), *range(127, 400), 0x3000, 0x200B, 0x1F600, 0xD800]:
            for text in (chr(code), "a" + chr(code), chr(code) + "a"):
                self.assertIs(is_fragment([("collapse", text)]), False, code)

    def test_a_hundred_runs_at_most(self):
        self.assertIs(is_fragment([("collapse", "a")] * 100), True)
        self.assertIs(is_fragment([("collapse", "")] * 100), True)
        self.assertIs(is_fragment([("collapse", "a")] * 101), False)
        self.assertIs(is_fragment([("collapse", "")] * 101), False)

    def test_four_hundred_signs_at_most(self):
        self.assertIs(is_fragment(flow("a" * 400)), True)
        self.assertIs(is_fragment(flow("a" * 401)), False)
        self.assertIs(is_fragment([("breaks", "abcd")] * 100), True)
        self.assertIs(is_fragment([("breaks", "abcd")] * 99 + [("collapse", "abcde")]), False)
        self.assertIs(is_fragment([("collapse", "a" * 400), ("preserve", "")]), True)
        self.assertIs(is_fragment([("collapse", "a" * 400), ("preserve", " ")]), False)

    def test_other_modes(self):
        for mode in ("", "Collapse", "collapse ", "pre", "break", None, 0, True, b"collapse", ("collapse",), ["breaks"],
                     EqualToAll()):
            self.assertIs(is_fragment([(mode, "a")]), False, mode)
            self.assertIs(is_fragment([("collapse", "a"), (mode, "")]), False, mode)

    def test_texts_that_are_no_strings(self):
        for text in (None, 0, 7, True, b"a", ["a"], ("a",), {"a": 1}):
            self.assertIs(is_fragment([("collapse", text)]), False, text)

    def test_lists_and_tuples_in_each_others_place(self):
        self.assertIs(is_fragment([["collapse", "a"]]), False)
        self.assertIs(is_fragment((("collapse", "a"),)), False)
        self.assertIs(is_fragment(()), False)
        self.assertIs(is_fragment(("collapse", "a")), False)
        self.assertIs(is_fragment([("collapse", "a"), ["collapse", "a"]]), False)
        self.assertIs(is_fragment([[("collapse", "a")]]), False)

    def test_other_numbers_of_items(self):
        self.assertIs(is_fragment([()]), False)
        self.assertIs(is_fragment([("collapse",)]), False)
        self.assertIs(is_fragment([("collapse", "a", "b")]), False)
        self.assertIs(is_fragment([("collapse", "a"), ("collapse",)]), False)

    def test_anything_else(self):
        itself = []
        itself.append(itself)
        for thing in (None, True, False, 0, 3, -1, 1.5, "", "collapse", b"", {}, {"collapse": "a"}, set(), object(),
                      len, int, range(3), itself, [None], [0], ["ab"], [{}], iter([]), lambda: 0):
            self.assertIs(is_fragment(thing), False, repr(thing))


class TheUnits(unittest.TestCase):
    def test_the_signs_in_order_with_the_modes_of_their_runs(self):
        fragment = [("collapse", "a "), ("breaks", "\n"), ("collapse", ""), ("preserve", "|")]
        self.assertEqual(
            units(fragment), [("collapse", "a"), ("collapse", " "), ("breaks", "\n"), ("preserve", "|")]
        )

    def test_no_units(self):
        self.assertEqual(units([]), [])
        self.assertEqual(units([("collapse", ""), ("breaks", "")]), [])

    def test_the_kinds_of_values(self):
        found = units(flow("ab"))
        self.assertIs(type(found), list)
        self.assertTrue(all(type(unit) is tuple for unit in found))

    def test_beyond_the_bounds(self):
        self.assertEqual(units([("collapse", "ab")] * 500), [("collapse", "a"), ("collapse", "b")] * 500)


class TidyFragments(unittest.TestCase):
    def test_neighbors_of_one_mode_become_one_run(self):
        row = [("collapse", "a"), ("collapse", "b"), ("breaks", " "), ("collapse", "c"), ("collapse", "\n")]
        self.assertEqual(tidy(row), [("collapse", "ab"), ("breaks", " "), ("collapse", "c\n")])

    def test_no_units(self):
        self.assertEqual(tidy([]), [])

    def test_the_kinds_of_values(self):
        found = tidy([("breaks", "a")])
        self.assertIs(type(found), list)
        self.assertIs(type(found[0]), tuple)

    def test_of_any_length(self):
        self.assertEqual(tidy([("preserve", "x")] * 5000), [("preserve", "x" * 5000)])
        row = [("preserve", "x"), ("breaks", "y")] * 3000
        self.assertEqual(tidy(row), row)

    def test_units_and_back(self):
        for fragment in [*fragments(ALL_UNITS, 3), *long_fragments(10, 3)]:
            row = units(fragment)
            found = tidy(row)
            self.assertEqual(units(found), row)
            self.assertNotIn("", [text for _, text in found])
            self.assertTrue(all(one[0] != two[0] for one, two in zip(found, found[1:])))


class TheKinds(unittest.TestCase):
    def test_the_table_in_the_mode_collapse(self):
        told = {" ": "space", "\n": "feed", "|": "end", "^": "zero", "<": "mark", ">": "mark",
                "A": "wide", "M": "wide", "Z": "wide", "a": "other", "z": "other", "@": "other", "[": "other",
                "!": "other", "~": "other", "0": "other", ";": "other", "=": "other", "?": "other", "{": "other",
                "}": "other", "]": "other", "_": "other"}
        for sign, expected in told.items():
            self.assertEqual(kind("collapse", sign), expected, sign)

    def test_white_in_the_other_modes(self):
        self.assertEqual(kind("breaks", " "), "space")
        self.assertEqual(kind("breaks", "\n"), "end")
        self.assertEqual(kind("preserve", " "), "other")
        self.assertEqual(kind("preserve", "\n"), "end")

    def test_every_sign_in_every_mode(self):
        for mode in MODES:
            for sign in SIGNS:
                self.assertEqual(kind(mode, sign), slow_kind((mode, sign)), (mode, sign))

    def test_all_but_white_is_the_same_in_all_modes(self):
        for sign in SIGNS:
            if sign not in " \n":
                self.assertEqual(len({kind(mode, sign) for mode in MODES}), 1, sign)


if __name__ == "__main__":
    unittest.main()
