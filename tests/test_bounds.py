"""Points 1, 2 and 23: what holds for the whole program."""

import copy
import unittest

from gapsalike import changes, documents, errors, forms, fragments, lines, pieces, showing
from helper import flow, long_fragments, slow_normal_form, slow_shown, slow_tidy, slow_units

SAMPLE = [("collapse", " a \n"), ("breaks", ""), ("breaks", " b\n"), ("preserve", " "), ("collapse", "A<\n>B^\n")]
OTHER = [("collapse", "\n"), ("collapse", " ^ ")]
FORM = (" ", "a b^", "\n<")


def calls():
    """Each function of the interface with arguments of its own."""
    sample = copy.deepcopy(SAMPLE)
    other = copy.deepcopy(OTHER)
    return [
        (fragments.is_fragment, [sample]), (fragments.units, [sample]), (fragments.kind, ["breaks", " "]),
        (fragments.tidy, [[("collapse", "a"), ("collapse", " "), ("breaks", "b")]]), (showing.shown, [sample]),
        (forms.shortened, [sample]), (forms.normal_form, [sample]), (forms.stands_for, [FORM]),
        (forms.is_form, [FORM]), (forms.together, [FORM, FORM]), (forms.are_alike, [sample, other]),
        (forms.telling, [sample, other]), (forms.is_telling, [sample, other, ("a ", "\n^")]),
        (forms.free_places, [sample]), (lines.breaking_places, [sample]), (lines.laid_out, [sample, 2, 1]),
        (pieces.undecided, [sample]), (pieces.certain, [sample]), (changes.change, ["a b", "a\nb"]),
        (changes.changed, ["a b", (1, 1, "\n")]),
    ]


def methods():
    """Each method of the interface that returns something, on an object of its own, with its arguments."""
    stream = pieces.Stream()
    stream.push(copy.deepcopy(SAMPLE))
    document = documents.Document(copy.deepcopy(SAMPLE))
    document.replace(0, 1, flow("ab"))
    document.replace(0, 0, flow("c"))
    document.undo()
    other = copy.deepcopy(OTHER)
    return [
        (stream.push, [other]), (stream.content, []), (stream.end, []), (document.text, []), (document.length, []),
        (document.content, []), (document.source, [1, 5]), (document.to_shown, [4]), (document.to_source, [2]),
        (document.find, ["b"]), (document.redo, []), (document.undo, []), (document.replace, [2, 3, other]),
        (document.compact, [0, 9]),
    ]


class TheWholeProgram(unittest.TestCase):
    def test_no_argument_is_modified(self):
        for function, arguments in calls():
            before = copy.deepcopy(arguments)
            function(*arguments)
            self.assertEqual(arguments, before, function)

    def test_no_method_modifies_its_arguments(self):
        for method, arguments in methods():
            before = copy.deepcopy(arguments)
            method(*arguments)
            self.assertEqual(arguments, before, method)

    def test_what_a_method_returns_belongs_to_the_caller(self):
        for reading in ("content", "source", "find", "to_source"):
            method, arguments = next(row for row in methods() if row[0].__name__ == reading)
            first = method(*arguments)
            kept = copy.deepcopy(first)
            if isinstance(first, list):
                first.append("changed")
                first.reverse()
            self.assertEqual(method(*arguments), kept, reading)

    def test_what_is_returned_belongs_to_the_caller(self):
        for function, arguments in calls():
            first = function(*arguments)
            kept = copy.deepcopy(first)
            for part in [first, *(first if isinstance(first, tuple) else [])]:
                if isinstance(part, list):
                    self.assertTrue(all(part is not argument for argument in arguments), function)
                    part.append("changed")
                    part.reverse()
            self.assertEqual(function(*arguments), kept, function)

    def test_what_is_passed_may_be_changed_later(self):
        row = [("collapse", "a"), ("breaks", "b")]
        made = fragments.tidy(row)
        short = forms.shortened(made)
        row.clear()
        self.assertEqual(made, [("collapse", "a"), ("breaks", "b")])
        made.clear()
        self.assertEqual(short, [("collapse", "a"), ("breaks", "b")])

    def test_bools_are_no_strings_and_no_fragments(self):
        for thing in (True, False, [True], [(True, "a")], [("collapse", True)]):
            self.assertIs(fragments.is_fragment(thing), False)
        self.assertIs(forms.is_form((True, "", "")), False)

    def test_answers_are_true_or_false(self):
        self.assertIs(fragments.is_fragment(SAMPLE), True)
        self.assertIs(forms.are_alike(SAMPLE, OTHER), False)
        self.assertIs(forms.is_telling(SAMPLE, OTHER, ("", "")), True)

    def test_two_words_grow_together_or_a_gap_appears(self):
        self.assertEqual(showing.shown(flow("one") + flow("two"))[0], "onetwo")
        self.assertEqual(showing.shown(flow("one ") + flow(" two"))[0], "one two")
        self.assertEqual(showing.shown(flow(" one "))[0], "one")
        self.assertEqual(showing.shown([("preserve", " one ")])[0], " one ")

    def test_beyond_the_bounds(self):
        for fragment in long_fragments(3, 23):
            row = fragment * 4
            self.assertEqual(showing.shown(row), slow_shown(row))
            self.assertEqual(forms.normal_form(row), slow_normal_form(row))
            self.assertEqual(forms.normal_form(forms.shortened(row)), slow_normal_form(row))
            self.assertIs(forms.are_alike(row, forms.stands_for(forms.normal_form(row))), True)
            self.assertLessEqual(len(forms.free_places(row)), len(fragments.units(row)) + 1)
            laid, breaks = lines.laid_out(row, 12, 3)
            self.assertEqual(slow_normal_form(laid), slow_normal_form(row))
            self.assertLessEqual(breaks, len(lines.breaking_places(row)))
            self.assertTrue(slow_shown(row + flow("a"))[0].startswith(pieces.certain(row)))
            self.assertTrue(slow_shown(row + flow("^"))[0].startswith(pieces.certain(row)))

    def test_documents_and_streams_beyond_the_bounds(self):
        for fragment in long_fragments(2, 24):
            row = fragment * 3
            stream = pieces.Stream()
            self.assertEqual(stream.push(row) + stream.end(), slow_shown(row)[0])
            document = documents.Document(row)
            self.assertEqual(document.text(), slow_shown(row)[0])
            self.assertIsNone(document.compact(0, 1200))
            self.assertIsNone(document.undo())
            self.assertEqual(document.content(), slow_tidy(slow_units(row)))

    def test_the_reasons_are_those_of_one_error(self):
        stream = pieces.Stream()
        stream.end()
        document = documents.Document([])
        told = [(stream.push, [[]], "ended"), (stream.end, [], "ended"), (document.undo, [], "nothing to undo"),
                (document.redo, [], "nothing to redo"), (document.source, [0, 1], "outside"),
                (document.replace, [0, 0, flow("a" * 400) * 6], "too long")]
        for method, arguments, reason in told:
            with self.assertRaises(errors.GapsError) as caught:
                method(*arguments)
            self.assertEqual(caught.exception.reason, reason)


if __name__ == "__main__":
    unittest.main()
