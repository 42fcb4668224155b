"""Point 24: the examples, word by word."""

import unittest

from gapsalike.forms import free_places, normal_form, telling
from gapsalike.lines import laid_out
from gapsalike.pieces import Stream, certain
from gapsalike.showing import shown
from helper import flow


class Examples(unittest.TestCase):
    def test_feeds_between_wide_units(self):
        self.assertEqual(shown(flow("A\nB"))[0], "AB")
        self.assertEqual(shown(flow("A\na"))[0], "A a")

    def test_a_mark_between_spaces(self):
        self.assertEqual(shown(flow("a < b"))[0], "a <b")
        self.assertEqual(shown(flow("a <\nb"))[0], "a< b")

    def test_normal_forms(self):
        self.assertEqual(normal_form(flow("  a  b \n")), (" ", "a b", "\n"))
        self.assertEqual(normal_form(flow(" | ")), ("", "\n", ""))
        self.assertEqual(normal_form(flow("\n< ^x")), ("<\n", "^x", ""))

    def test_a_feed_and_a_space_differ_in_the_ninth_context(self):
        self.assertEqual(telling(flow("\n"), flow(" ")), ("^", "a"))

    def test_free_places(self):
        self.assertEqual(free_places(flow("AB")), [1])
        self.assertEqual(free_places(flow("x|y")), [1, 2])
        self.assertEqual(free_places(flow("\nx")), [0, 1])
        self.assertEqual(free_places([("preserve", "a b")]), [])

    def test_laid_out_in_lines(self):
        self.assertEqual(laid_out(flow("ABCD"), 2, 0), (flow("AB\nCD"), 1))

    def test_certain_texts(self):
        self.assertEqual(certain(flow("A <")), "A")
        self.assertEqual(certain(flow("A <>\n")), "A<>")
        self.assertEqual(certain(flow("A <>\nB")), "A<>B")
        stream = Stream()
        told = [stream.push(flow(text)) for text in ("A <", ">\n", "B")]
        self.assertEqual(told, ["A", "<>", "B"])
        self.assertEqual(stream.end(), "")


if __name__ == "__main__":
    unittest.main()
