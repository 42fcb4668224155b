"""Points 7, 10 and 11: alike in all contexts, normal forms together, the nine contexts."""

import itertools
import unittest

from gapsalike.forms import are_alike, is_telling, normal_form, shortened, stands_for, telling, together
from helper import ALL_UNITS, COLLAPSE_UNITS, flow, fragments, long_fragments, slow_normal_form, slow_shown

NINE = [("", ""), ("a", ""), ("^", ""), ("a ", ""), ("", "a"), ("", "^"), ("", " a"), ("a", "a"), ("^", "a")]


def in_context(context, fragment):
    before, after = context
    return slow_shown(flow(before) + fragment + flow(after))[0]


class Alike(unittest.TestCase):
    def test_alike_ones(self):
        self.assertIs(are_alike(flow("a  b"), flow("a\nb")), True)
        self.assertIs(are_alike(flow("a b"), [("preserve", "a b")]), True)
        self.assertIs(are_alike(flow("a|b"), [("breaks", "a\nb")]), True)
        self.assertIs(are_alike(flow("A\nB"), flow("AB")), True)
        self.assertIs(are_alike(flow("\n<^"), flow("<\n^")), True)
        self.assertIs(are_alike([], flow("")), True)
        self.assertIs(are_alike(flow(" | "), flow("|")), True)

    def test_unlike_ones(self):
        self.assertIs(are_alike(flow(" "), flow("\n")), False)
        self.assertIs(are_alike([], flow(" ")), False)
        self.assertIs(are_alike(flow("a b"), flow("ab")), False)
        self.assertIs(are_alike(flow(" a"), [("preserve", " a")]), False)
        self.assertIs(are_alike(flow("\n<a"), flow("<\na")), False)
        self.assertIs(are_alike(flow("A B"), flow("A\nB")), False)

    def test_alike_ones_are_shown_alike_in_contexts_of_all_modes(self):
        contexts = list(fragments(ALL_UNITS, 1))
        for fragment in fragments(COLLAPSE_UNITS, 3):
            other = stands_for(normal_form(fragment))
            short = shortened(fragment)
            for before, after in itertools.product(contexts, repeat=2):
                text = slow_shown(before + fragment + after)[0]
                self.assertEqual(slow_shown(before + other + after)[0], text, (before, fragment, after))
                self.assertEqual(slow_shown(before + short + after)[0], text, (before, fragment, after))

    def test_alike_exactly_if_no_context_of_the_nine_tells(self):
        seen = {}
        for fragment in fragments(COLLAPSE_UNITS, 5):
            texts = tuple(in_context(context, fragment) for context in NINE)
            first = seen.setdefault(texts, fragment)
            self.assertIs(are_alike(first, fragment), True, (first, fragment))
        # Fragments with other texts are unlike: each has a normal form of its own.
        self.assertEqual(len({normal_form(first) for first in seen.values()}), len(seen))

    def test_pairs(self):
        for first, second in itertools.product(list(fragments(ALL_UNITS, 2)), repeat=2):
            expected = slow_normal_form(first) == slow_normal_form(second)
            self.assertIs(are_alike(first, second), expected, (first, second))


class Telling(unittest.TestCase):
    def first_of_the_nine(self, first, second):
        for context in NINE:
            if in_context(context, first) != in_context(context, second):
                return context
        return None

    def test_each_of_the_nine_is_the_first_for_some(self):
        self.assertEqual(telling(flow("a"), flow("b")), ("", ""))
        self.assertEqual(telling(flow(" a"), flow("a")), ("a", ""))
        self.assertEqual(telling(flow(" a"), flow("\na")), ("^", ""))
        self.assertEqual(telling(flow("\n^"), flow("^")), ("a ", ""))
        self.assertEqual(telling(flow("a "), flow("a")), ("", "a"))
        self.assertEqual(telling(flow("a "), flow("a\n")), ("", "^"))
        self.assertEqual(telling(flow("^\n"), flow("^")), ("", " a"))
        self.assertEqual(telling(flow(" "), []), ("a", "a"))
        self.assertEqual(telling(flow(" "), flow("\n")), ("^", "a"))
        self.assertIsNone(telling(flow("a \n b"), [("preserve", "a b")]))
        self.assertIsNone(telling([], []))

    def test_the_kinds_of_values(self):
        found = telling([], flow("a"))
        self.assertIs(type(found), tuple)
        self.assertEqual([type(part) for part in found], [str, str])

    def test_pairs(self):
        rows = list(fragments(ALL_UNITS, 2))
        for first, second in itertools.product(rows, rows[::3]):
            self.assertEqual(telling(first, second), self.first_of_the_nine(first, second), (first, second))

    def test_none_exactly_if_alike(self):
        for fragment in long_fragments(10, 11):
            self.assertIsNone(telling(fragment, stands_for(slow_normal_form(fragment))))
            self.assertEqual(telling(fragment, fragment + flow("a")), ("", ""))

    def test_is_telling_in_each_of_the_nine(self):
        rows = list(fragments(ALL_UNITS, 1)) + [flow(" a"), flow("a\n"), flow("\n^"), flow("^ "), flow(" <\n")]
        for first, second in itertools.product(rows, repeat=2):
            for context in NINE:
                expected = in_context(context, first) != in_context(context, second)
                self.assertIs(is_telling(first, second, context), expected, (first, second, context))

    def test_is_telling_in_other_contexts(self):
        self.assertIs(is_telling(flow(" "), flow("\n"), ("A", "B")), True)
        self.assertIs(is_telling(flow(" "), flow("\n"), ("A", "b")), False)
        self.assertIs(is_telling(flow(" "), [], ("a|", "a")), False)
        self.assertIs(is_telling(flow(" "), [], ("a" * 500, "a" * 500)), True)
        # The strings of a context stand in the mode collapse: its feeds are white.
        self.assertIs(is_telling(flow(" "), [], ("a\n", "a")), False)
        self.assertIs(is_telling(flow("b\n<"), flow("b<"), ("", "\na")), True)
        self.assertIs(is_telling(flow("x"), flow("y"), ("\n", "\n")), True)


class Together(unittest.TestCase):
    def test_named_forms(self):
        self.assertEqual(together(("", "a", " "), ("\n", "b", "")), ("", "a b", ""))
        self.assertEqual(together(("", "A", " "), ("\n", "B", "")), ("", "AB", ""))
        self.assertEqual(together((" ", "", ""), ("", "a", "")), (" ", "a", ""))
        self.assertEqual(together(("\n<", "", ""), ("", "^", "")), ("<\n", "^", ""))
        self.assertEqual(together(("", "^", "\n<"), ("", "a", "")), ("", "^<a", ""))
        self.assertEqual(together(("", "", ""), ("", "", "")), ("", "", ""))
        self.assertEqual(together(("", "a", " "), ("", "\n", "")), ("", "a\n", ""))

    def test_it_is_the_form_of_two_fragments_one_behind_the_other(self):
        rows = list(fragments(ALL_UNITS, 2))
        for first, second in itertools.product(rows, repeat=2):
            expected = slow_normal_form(first + second)
            self.assertEqual(together(normal_form(first), normal_form(second)), expected, (first, second))

    def test_of_any_length(self):
        rows = list(long_fragments(12, 7))
        for first, second in itertools.product(rows, repeat=2):
            expected = slow_normal_form(first + second)
            self.assertEqual(together(normal_form(first), normal_form(second)), expected)

    def test_the_same_in_front_of_and_behind_alike_ones(self):
        rows = list(fragments(COLLAPSE_UNITS, 2))
        alike = [(one, two) for one, two in itertools.product(rows, repeat=2) if are_alike(one, two)]
        for (one, two), other in itertools.product(alike, rows):
            self.assertIs(are_alike(one + other, two + other), True, (one, two, other))
            self.assertIs(are_alike(other + one, other + two), True, (one, two, other))


if __name__ == "__main__":
    unittest.main()
