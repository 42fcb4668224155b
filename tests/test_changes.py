"""Point 19: changes from one text to another."""

import itertools
import unittest

from gapsalike.changes import change, changed


def texts(alphabet, most):
    return ["".join(signs) for many in range(most + 1) for signs in itertools.product(alphabet, repeat=many)]


def slow_change(one, two):
    """The words of point 19, with the longest beginning and the longest end searched for."""
    if one == two:
        return None
    offset = max(k for k in range(len(one) + 1) if two.startswith(one[:k]))
    one = one[offset:]
    two = two[offset:]
    same = max(k for k in range(len(one) + 1) if two.endswith(one[len(one) - k:]))
    return (offset, len(one) - same, two[:len(two) - same])


def replacements(one, two):
    """All replacements of signs that stand side by side by which the one text becomes the other."""
    for offset in range(len(one) + 1):
        for removed in range(len(one) - offset + 1):
            many = len(two) - len(one) + removed
            inserted = two[offset:offset + many]
            if many >= 0 and one[:offset] + inserted + one[offset + removed:] == two:
                yield offset, removed, inserted


class Changes(unittest.TestCase):
    def test_the_same(self):
        for text in ("", "a", "a\nb" * 50):
            self.assertIsNone(change(text, text))
            self.assertEqual(changed(text, None), text)

    def test_the_kinds_of_values(self):
        found = change("ab", "acb")
        self.assertIs(type(found), tuple)
        self.assertEqual([type(part) for part in found], [int, int, str])

    def test_one_of_them_empty(self):
        self.assertEqual(change("", "abc"), (0, 0, "abc"))
        self.assertEqual(change("abc", ""), (0, 3, ""))

    def test_in_the_middle_and_at_the_ends(self):
        self.assertEqual(change("abcd", "abXcd"), (2, 0, "X"))
        self.assertEqual(change("abcd", "acd"), (1, 1, ""))
        self.assertEqual(change("abcd", "aXYd"), (1, 2, "XY"))
        self.assertEqual(change("abcd", "Xbcd"), (0, 1, "X"))
        self.assertEqual(change("abcd", "abc"), (3, 1, ""))
        self.assertEqual(change("abcd", "abcdd"), (4, 0, "d"))
        self.assertEqual(change("abcd", "efg"), (0, 4, "efg"))

    def test_the_beginning_goes_before_the_end(self):
        self.assertEqual(change("aa", "aaa"), (2, 0, "a"))
        self.assertEqual(change("aaa", "a"), (1, 2, ""))
        self.assertEqual(change("abab", "ab"), (2, 2, ""))
        self.assertEqual(change("ab", "abab"), (2, 0, "ab"))
        self.assertEqual(change("aba", "ababa"), (3, 0, "ba"))

    def test_carried_out(self):
        self.assertEqual(changed("abcd", (1, 2, "XYZ")), "aXYZd")
        self.assertEqual(changed("abcd", (4, 0, "e")), "abcde")
        self.assertEqual(changed("abcd", (0, 4, "")), "")
        self.assertEqual(changed("", (0, 0, "\n")), "\n")
        # A change that is not the shortest one is carried out, too.
        self.assertEqual(changed("abcd", (1, 2, "bc")), "abcd")

    def test_all_pairs_of_short_strings(self):
        rows = texts("a \n", 4)
        for one, two in itertools.product(rows, repeat=2):
            told = change(one, two)
            self.assertEqual(told, slow_change(one, two), (one, two))
            self.assertEqual(changed(one, told), two)

    def test_no_other_replacement_removes_or_inserts_fewer_signs(self):
        rows = texts("ab", 5)
        for one, two in itertools.product(rows, repeat=2):
            if one != two:
                _, removed, inserted = change(one, two)
                found = list(replacements(one, two))
                self.assertEqual(removed, min(row[1] for row in found), (one, two))
                self.assertEqual(len(inserted), min(len(row[2]) for row in found), (one, two))

    def test_long_strings(self):
        text = "ab c\n" * 800
        self.assertEqual(change(text, text[:2000] + "X" + text[2001:]), (2000, 1, "X"))
        self.assertEqual(change(text, text + "ab"), (4000, 0, "ab"))
        self.assertEqual(change(text, text[5:]), (3995, 5, ""))


if __name__ == "__main__":
    unittest.main()
