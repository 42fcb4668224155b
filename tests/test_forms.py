"""Points 8, 9 and 12: needed units, shortened fragments, normal forms."""

import itertools
import re
import unittest

from gapsalike.forms import is_form, normal_form, shortened, stands_for
from gapsalike.fragments import tidy, units
from helper import (
    ALL_UNITS, COLLAPSE_UNITS, MODES, SIGNS, flow, fragments, long_fragments, slow_needed, slow_normal_form,
)


class Shortened(unittest.TestCase):
    def check(self, text, expected):
        self.assertEqual(shortened(flow(text)), flow(expected) if expected else [], text)

    def test_nothing(self):
        self.assertEqual(shortened([]), [])
        self.assertEqual(shortened([("preserve", ""), ("collapse", "")]), [])

    def test_between_known_neighbors(self):
        self.check("a  b", "a b")
        self.check("a \n b", "a\nb")
        self.check("A \n B", "AB")
        self.check("A  B", "A B")
        self.check("^\na", "^a")
        self.check("a < | > b", "a<|>b")

    def test_at_the_borders(self):
        self.check("  a  ", " a ")
        self.check(" \n a \n ", "\na\n")
        self.check("\n ^ \n", "\n^\n")
        self.check(" <\n> A", "<\n>A")
        self.check(" |\n", "|")

    def test_no_solid_unit(self):
        self.check("   ", " ")
        self.check("  \n\n", "\n")
        self.check("< > <", "< ><")
        self.check("< >\n<", "<>\n<")

    def test_the_modes_remain(self):
        fragment = [("collapse", "a "), ("breaks", " |"), ("breaks", "b  "), ("preserve", " \n"), ("collapse", " x")]
        self.assertEqual(
            shortened(fragment),
            [("collapse", "a"), ("breaks", "|b "), ("preserve", " \n"), ("collapse", "x")],
        )

    def test_all_short_fragments(self):
        for fragment in [*fragments(ALL_UNITS, 4), *long_fragments(30, 8)]:
            self.assertEqual(shortened(fragment), tidy(slow_needed(fragment)), fragment)

    def test_shortened_again_it_stays_and_it_is_alike(self):
        for fragment in [*fragments(ALL_UNITS, 4), *long_fragments(30, 12)]:
            once = shortened(fragment)
            self.assertEqual(shortened(once), once, fragment)
            self.assertEqual(slow_normal_form(once), slow_normal_form(fragment), fragment)

    def test_no_alike_one_is_shorter(self):
        least = {}
        for fragment in fragments(ALL_UNITS, 4):
            # The shorter fragments come first.
            least.setdefault(slow_normal_form(fragment), len(fragment))
            many = len(units(shortened(fragment)))
            self.assertEqual(many, least[slow_normal_form(fragment)], fragment)


class NormalForms(unittest.TestCase):
    def check(self, text, expected):
        self.assertEqual(normal_form(flow(text)), expected, text)

    def test_the_kinds_of_values(self):
        found = normal_form(flow(" a "))
        self.assertIs(type(found), tuple)
        self.assertEqual([type(part) for part in found], [str, str, str])

    def test_no_solid_unit(self):
        self.check("", ("", "", ""))
        self.check("  ", (" ", "", ""))
        self.check(" \n", ("\n", "", ""))
        self.check("< \n> ", ("<\n>", "", ""))
        self.check("< > ", ("< >", "", ""))
        self.assertEqual(normal_form([("breaks", " <")]), (" <", "", ""))

    def test_start_and_end_keep_the_place_among_marks(self):
        self.check("<\n>a<\n>", ("<\n>", "a", "<\n>"))
        self.check("< >A< >", ("< >", "A", "< >"))

    def test_the_core_is_as_it_is_shown(self):
        self.check("a|b", ("", "a\nb", ""))
        self.check("a\nb", ("", "a b", ""))
        self.check("A\nB", ("", "AB", ""))
        self.check("a <\n b", ("", "a< b", ""))
        self.assertEqual(normal_form([("preserve", " |\n ")]), ("", " \n\n ", ""))
        self.assertEqual(normal_form([("breaks", "a \n b")]), ("", "a\nb", ""))

    def test_beside_a_line_end_start_and_end_have_marks_alone(self):
        self.check(" < \n|> \n", ("<", "\n", ">"))
        self.assertEqual(normal_form([("breaks", " <\n> ")]), ("<", "\n", ">"))

    def test_the_moved_feed(self):
        self.check("\n<^", ("<\n", "^", ""))
        self.check("<\n>^", ("<>\n", "^", ""))
        self.check("^<\n", ("", "^", "\n<"))
        self.check("^<\n>", ("", "^", "\n<>"))
        self.check("\n<^x^<\n", ("<\n", "^x^", "\n<"))
        self.check("\n<^x<\n", ("<\n", "^x", "<\n"))
        self.check("\n<x^<\n", ("\n<", "x^", "\n<"))

    def test_a_space_is_not_moved(self):
        self.check(" <^< ", (" <", "^", "< "))
        self.check("< >^< >", ("< >", "^", "< >"))

    def test_feeds_beside_others_are_not_moved(self):
        for solid in "aA~":
            self.check("\n<" + solid + "<\n", ("\n<", solid, "<\n"))

    def test_every_sign_alone(self):
        for mode in MODES:
            for sign in SIGNS:
                fragment = [(mode, sign)]
                self.assertEqual(normal_form(fragment), slow_normal_form(fragment), (mode, sign))

    def test_all_short_fragments(self):
        for fragment in [*fragments(ALL_UNITS, 4), *fragments(COLLAPSE_UNITS, 5), *long_fragments(30, 9)]:
            self.assertEqual(normal_form(fragment), slow_normal_form(fragment), fragment)


class WhatAFormStandsFor(unittest.TestCase):
    def test_three_modes(self):
        self.assertEqual(
            stands_for((" ", "a b", "\n")), [("collapse", " "), ("preserve", "a b"), ("collapse", "\n")]
        )

    def test_empty_parts_make_no_runs(self):
        self.assertEqual(stands_for(("", "", "")), [])
        self.assertEqual(stands_for(("<\n", "", "")), flow("<\n"))
        self.assertEqual(stands_for(("", "a", "")), [("preserve", "a")])
        self.assertEqual(stands_for(("", "a", "<")), [("preserve", "a"), ("collapse", "<")])

    def test_of_any_length(self):
        self.assertEqual(stands_for(("", "a" * 5000, "")), [("preserve", "a" * 5000)])

    def test_there_and_back(self):
        for fragment in [*fragments(ALL_UNITS, 4), *long_fragments(30, 10)]:
            form = normal_form(fragment)
            self.assertEqual(normal_form(stands_for(form)), form, fragment)
            self.assertIs(is_form(form), True, form)


class WhatIsAForm(unittest.TestCase):
    def plainly_a_form(self, start, core, end):
        """Point 9, read as what the three strings may look like."""
        gap = re.compile("[<>]*[ \n]?[<>]*")
        if not gap.fullmatch(start) or not gap.fullmatch(end) or "|" in core:
            return False
        if not core:
            return not end
        if core[0] in "<>" or core[-1] in "<>":
            return False
        if core[0] == "\n" and (" " in start or "\n" in start):
            return False
        if core[-1] == "\n" and (" " in end or "\n" in end):
            return False
        if core[0] == "^" and "\n" in start[:-1]:
            return False
        return not (core[-1] == "^" and "\n" in end[1:])

    def test_all_short_tuples(self):
        for many in range(5):
            for signs in itertools.product(" \n<^Aa|", repeat=many):
                text = "".join(signs)
                for one, two in itertools.combinations_with_replacement(range(many + 1), 2):
                    form = (text[:one], text[one:two], text[two:])
                    self.assertIs(is_form(form), self.plainly_a_form(*form), form)

    def test_forms(self):
        for form in (("", "", ""), (" ", "", ""), ("<\n>", "", ""), (" ", "a b", "\n"), ("", "\n", ""),
                     ("<\n", "^x", ""), ("", "  ", " "), ("<", "\n<\n", ">"), ("", "a < b", ""), ("", " ", "")):
            self.assertIs(is_form(form), True, form)

    def test_nearly_forms(self):
        for form in (("  ", "a", ""), (" \n", "", ""), ("", "", " "), ("", "", "<"), (" ", "", " "), ("", "<a", ""),
                     ("", "a>", ""), ("", "a|b", ""), ("", "|", ""), (" ", "\n", ""), ("", "a\n", "\n"),
                     ("\n<", "^", ""), ("", "^", "<\n"), ("a", "", ""), ("a", "b", ""), ("", "b", "a"),
                     ("^", "", ""), ("", "<", ""), ("|", "a", "")):
            self.assertIs(is_form(form), False, form)

    def test_characters_that_are_no_signs(self):
        for bad in ("\t", "\r", "\x00", "\x7f", "\u00e9", "\u3042", "\u200b", "\ud800"):
            self.assertIs(is_form(("", bad, "")), False)
            self.assertIs(is_form(("", "a" + bad + "b", "")), False)
            self.assertIs(is_form((bad, "a", "")), False)
            self.assertIs(is_form(("", "a", bad)), False)

    def test_of_any_length(self):
        self.assertIs(is_form(("<" * 900 + " ", "a b" * 900, ">" * 900)), True)
        self.assertIs(is_form((" " + "<" * 900 + " ", "a b" * 900, "")), False)

    def test_things_that_are_none(self):
        itself = []
        itself.append(itself)
        for thing in (None, True, 0, 1.5, "", "abc", b"abc", [], ["", "", ""], (), ("",), ("", ""), ("", "", "", ""),
                      (None, "", ""), ("", 0, ""), ("", "", False), ("", b"a", ""), (["a"], "", ""), ("", ["a"], ""),
                      ("", ("a",), ""), {}, {"": 1}, set(), object(), len, str, itself, (itself, "", ""),
                      [("preserve", "a")], (("collapse", ""), ("preserve", "a"), ("collapse", ""))):
            self.assertIs(is_form(thing), False, repr(thing))


if __name__ == "__main__":
    unittest.main()
