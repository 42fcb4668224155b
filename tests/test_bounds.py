"""Points 1, 2 and 23: what holds for the whole program."""

import copy
import unittest

from gapsalike import forms, fragments, showing
from helper import flow, long_fragments, slow_normal_form, slow_shown

SAMPLE = [("collapse", " a \n"), ("breaks", ""), ("breaks", " b\n"), ("preserve", " "), ("collapse", "A<\n>B^\n")]
OTHER = [("collapse", "\n"), ("collapse", " ^ ")]
FORM = (" ", "a b^", "\n<")


def calls():
    """Each function of the interface with arguments of its own."""
    sample = copy.deepcopy(SAMPLE)
    other = copy.deepcopy(OTHER)
    return [
        (fragments.is_fragment, [sample]), (fragments.units, [sample]), (fragments.kind, ["breaks", " "]),
        (fragments.tidy, [[("collapse", "a"), ("collapse", " "), ("breaks", "b")]]), (showing.shown, [sample]),
        (forms.shortened, [sample]), (forms.normal_form, [sample]), (forms.stands_for, [FORM]),
        (forms.is_form, [FORM]), (forms.together, [FORM, FORM]), (forms.are_alike, [sample, other]),
        (forms.telling, [sample, other]), (forms.is_telling, [sample, other, ("a ", "\n^")]),
        (forms.free_places, [sample]),
    ]


class TheWholeProgram(unittest.TestCase):
    def test_no_argument_is_modified(self):
        for function, arguments in calls():
            before = copy.deepcopy(arguments)
            function(*arguments)
            self.assertEqual(arguments, before, function)

    def test_what_is_returned_belongs_to_the_caller(self):
        for function, arguments in calls():
            first = function(*arguments)
            kept = copy.deepcopy(first)
            for part in [first, *(first if isinstance(first, tuple) else [])]:
                if isinstance(part, list):
                    self.assertTrue(all(part is not argument for argument in arguments), function)
                    part.append("changed")
                    part.reverse()
            self.assertEqual(function(*arguments), kept, function)

    def test_what_is_passed_may_be_changed_later(self):
        row = [("collapse", "a"), ("breaks", "b")]
        made = fragments.tidy(row)
        short = forms.shortened(made)
        row.clear()
        self.assertEqual(made, [("collapse", "a"), ("breaks", "b")])
        made.clear()
        self.assertEqual(short, [("collapse", "a"), ("breaks", "b")])

    def test_bools_are_no_strings_and_no_fragments(self):
        for thing in (True, False, [True], [(True, "a")], [("collapse", True)]):
            self.assertIs(fragments.is_fragment(thing), False)
        self.assertIs(forms.is_form((True, "", "")), False)

    def test_answers_are_true_or_false(self):
        self.assertIs(fragments.is_fragment(SAMPLE), True)
        self.assertIs(forms.are_alike(SAMPLE, OTHER), False)
        self.assertIs(forms.is_telling(SAMPLE, OTHER, ("", "")), True)

    def test_two_words_grow_together_or_a_gap_appears(self):
        self.assertEqual(showing.shown(flow("one") + flow("two"))[0], "onetwo")
        self.assertEqual(showing.shown(flow("one ") + flow(" two"))[0], "one two")
        self.assertEqual(showing.shown(flow(" one "))[0], "one")
        self.assertEqual(showing.shown([("preserve", " one ")])[0], " one ")

    def test_beyond_the_bounds(self):
        for fragment in long_fragments(3, 23):
            row = fragment * 4
            self.assertEqual(showing.shown(row), slow_shown(row))
            self.assertEqual(forms.normal_form(row), slow_normal_form(row))
            self.assertEqual(forms.normal_form(forms.shortened(row)), slow_normal_form(row))
            self.assertIs(forms.are_alike(row, forms.stands_for(forms.normal_form(row))), True)
            self.assertLessEqual(len(forms.free_places(row)), len(fragments.units(row)) + 1)


if __name__ == "__main__":
    unittest.main()
