"""Points 19 to 22: documents that are edited and undone, and what is shown of them."""

import itertools
import random
import unittest

from gapsalike.changes import changed
from gapsalike.documents import Document
from gapsalike.errors import GapsError
from helper import (
    ALL_UNITS, COLLAPSE_UNITS, MODES, flow, fragments, long_fragments, slow_needed, slow_normal_form, slow_shown,
    slow_tidy, slow_units,
)


class Model:
    """A document by the words of point 20: whole contents, and the words of the errors."""

    def __init__(self, row):
        self.row = row
        self.earlier = []
        self.undone = []

    def reason(self, name, arguments):
        if name == "undo":
            return None if self.earlier else "nothing to undo"
        if name == "redo":
            return None if self.undone else "nothing to redo"
        start, end = arguments[:2]
        if start > end or end > len(self.row):
            return "outside"
        if name == "replace" and len(self.row) - (end - start) + len(slow_units(arguments[2])) > 2000:
            return "too long"
        return None

    def call(self, name, arguments):
        if name == "undo":
            self.undone.append(self.row)
            self.row = self.earlier.pop()
            return
        self.earlier = [*self.earlier, self.row][-100:]
        if name == "redo":
            self.row = self.undone.pop()
            return
        start, end = arguments[:2]
        part = slow_units(arguments[2]) if name == "replace" else slow_needed(self.row[start:end])
        self.row = self.row[:start] + part + self.row[end:]
        self.undone = []


def some_call(source, many, alphabet):
    """A call of an editing method, now and then a wrong one, for a document of so many units."""
    name = source.choice(["replace", "replace", "compact", "undo", "undo", "redo"])
    if name in ("undo", "redo"):
        return name, ()
    start, end = sorted(source.randrange(many + 1) for _ in range(2))
    if source.random() < 0.1:
        start, end = source.choice([(end + 1, start), (start, many + 1), (many + 1, many + 1), (many + 5, many + 9)])
    if name == "compact":
        return name, (start, end)
    end = min(end, start + 4) if source.random() < 0.7 else end
    text = [(source.choice(MODES), source.choice(alphabet)) for _ in range(source.randrange(5))]
    return name, (start, end, text)


class WithReasons(unittest.TestCase):
    def assert_reason(self, reason, function, *arguments):
        with self.assertRaises(GapsError) as caught:
            function(*arguments)
        self.assertEqual(caught.exception.reason, reason)

    def state(self, document):
        text = document.text()
        return (
            text, document.length(), document.content(), [document.to_shown(k) for k in range(document.length() + 1)],
            [document.to_source(k) for k in range(len(text) + 1)],
        )


class Contents(WithReasons):
    def test_nothing(self):
        document = Document([])
        self.assertEqual((document.text(), document.length(), document.content()), ("", 0, []))
        self.assertEqual(document.source(0, 0), [])
        self.assertEqual(document.to_shown(0), 0)
        self.assertEqual(document.to_source(0), (0, 0))
        self.assertEqual(document.find("a"), [])

    def test_the_text_the_length_and_the_content(self):
        document = Document([("collapse", " a "), ("breaks", ""), ("collapse", "\nb"), ("preserve", " \n")])
        self.assertEqual(document.text(), "a b \n")
        self.assertEqual(document.length(), 7)
        self.assertEqual(document.content(), [("collapse", " a \nb"), ("preserve", " \n")])

    def test_the_length_counts_units(self):
        self.assertEqual(Document(flow("  <\n")).length(), 4)
        self.assertEqual(Document([("collapse", ""), ("breaks", "")]).length(), 0)

    def test_at_the_bounds_and_beyond(self):
        for fragment in long_fragments(3, 20):
            for row in (fragment, fragment * 4):
                document = Document(row)
                self.assertEqual(document.text(), slow_shown(row)[0])
                self.assertEqual(document.content(), slow_tidy(slow_units(row)))

    def test_documents_do_not_share_anything(self):
        one = Document(flow("a"))
        two = Document(flow("b"))
        one.replace(0, 1, flow("c"))
        self.assert_reason("nothing to undo", two.undo)
        one.undo()
        self.assert_reason("nothing to redo", two.redo)
        self.assertEqual((one.text(), two.text()), ("a", "b"))


class Edits(WithReasons):
    def test_replacing_returns_the_change_of_the_shown_text(self):
        document = Document(flow("one two"))
        self.assertEqual(document.replace(3, 4, flow(" and ")), (4, 0, "and "))
        self.assertEqual(document.text(), "one and two")
        self.assertEqual(document.replace(0, 3, []), (0, 4, ""))
        self.assertEqual(document.text(), "and two")
        self.assertEqual(document.content(), flow(" and two"))
        self.assertEqual(document.replace(8, 8, flow("|")), (7, 0, "\n"))
        self.assertEqual(document.replace(0, 9, []), (0, 8, ""))
        self.assertEqual(document.content(), [])

    def test_an_edit_changes_what_is_shown_beside_it(self):
        document = Document(flow("A\na"))
        self.assertEqual(document.replace(2, 3, flow("B")), (1, 2, "B"))
        self.assertEqual(document.text(), "AB")
        document = Document(flow("a b"))
        self.assertEqual(document.replace(3, 3, flow("c")), (3, 0, "c"))
        self.assertEqual(document.replace(2, 4, []), (1, 3, ""))
        self.assertEqual(document.content(), flow("a "))

    def test_what_does_not_change_the_text_returns_none(self):
        document = Document(flow("a  b "))
        self.assertIsNone(document.replace(1, 3, flow("\n")))
        self.assertIsNone(document.replace(0, 1, [("preserve", "a")]))
        self.assertIsNone(document.replace(0, 0, []))
        self.assertIsNone(document.compact(0, 4))
        self.assertIsNone(document.undo())
        self.assertIsNone(document.redo())
        self.assertEqual(document.text(), "a b")

    def test_the_kinds_of_values(self):
        document = Document(flow("ab"))
        for told in (document.replace(1, 1, flow("c")), document.undo(), document.redo()):
            self.assertIs(type(told), tuple)
            self.assertEqual([type(part) for part in told], [int, int, str])
        self.assertIs(type(document.text()), str)
        self.assertIs(type(document.length()), int)
        self.assertIs(type(document.to_shown(1)), int)
        self.assertEqual([type(part) for part in document.to_source(1)], [int, int])
        self.assertIs(type(document.to_source(1)), tuple)
        self.assertEqual([type(row) for row in document.find("a")], [tuple])

    def test_compacting_takes_the_part_by_itself(self):
        document = Document(flow("  a \n b  "))
        self.assertIsNone(document.compact(3, 4))
        self.assertEqual(document.content(), flow("  a \n b  "))
        self.assertIsNone(document.compact(3, 5))
        self.assertEqual(document.content(), flow("  a\n b  "))
        self.assertIsNone(document.compact(0, 2))
        self.assertEqual(document.content(), flow(" a\n b  "))
        self.assertIsNone(document.compact(1, document.length() - 1))
        self.assertEqual(document.content(), flow(" a\nb  "))
        self.assertIsNone(document.compact(0, document.length()))
        self.assertEqual(document.content(), flow(" a\nb "))
        self.assertIsNone(document.compact(2, 2))
        self.assertEqual(document.content(), flow(" a\nb "))

    def test_compacting_parts_changes_nothing_that_is_shown(self):
        for row in fragments(COLLAPSE_UNITS, 4):
            for start, end in itertools.combinations_with_replacement(range(len(row) + 1), 2):
                document = Document(row)
                self.assertIsNone(document.compact(start, end), (row, start, end))
                self.assertEqual(document.text(), slow_shown(row)[0], (row, start, end))
                expected = row[:start] + slow_needed(row[start:end]) + row[end:]
                self.assertEqual(document.content(), slow_tidy(expected), (row, start, end))

    def test_a_part_that_is_replaced_by_an_alike_one(self):
        alike = {}
        for row in fragments(ALL_UNITS, 2):
            alike.setdefault(slow_normal_form(row), []).append(row)
        around = list(fragments(COLLAPSE_UNITS, 1))
        for rows in alike.values():
            for (one, two), before, after in itertools.product(zip(rows, rows[1:]), around, around):
                document = Document(before + one + after)
                self.assertIsNone(document.replace(len(before), len(before) + len(one), two), (before, one, two))

    def test_edits_of_parts_of_several_runs(self):
        document = Document([("collapse", "ab"), ("preserve", " \n"), ("collapse", "cd")])
        self.assertEqual(document.replace(1, 3, [("breaks", "\n")]), (1, 2, "\n"))
        self.assertEqual(document.content(), [("collapse", "a"), ("breaks", "\n"), ("preserve", "\n"),
                                              ("collapse", "cd")])
        self.assertEqual(document.text(), "a\n\ncd")
        document.replace(1, 3, [("collapse", ""), ("collapse", "x"), ("collapse", "y")])
        self.assertEqual(document.content(), flow("axycd"))


class UndoingAndRedoing(WithReasons):
    def test_there_and_back(self):
        document = Document(flow("a"))
        document.replace(1, 1, flow("b"))
        document.replace(2, 2, flow("c"))
        self.assertEqual(document.undo(), (2, 1, ""))
        self.assertEqual(document.undo(), (1, 1, ""))
        self.assertEqual(document.content(), flow("a"))
        self.assertEqual(document.redo(), (1, 0, "b"))
        self.assertEqual(document.redo(), (2, 0, "c"))
        self.assertEqual(document.content(), flow("abc"))
        self.assert_reason("nothing to redo", document.redo)
        document.undo()
        self.assertEqual(document.content(), flow("ab"))

    def test_contents_come_back_as_they_were(self):
        fragment = [("collapse", " a  "), ("breaks", " \n"), ("preserve", "  ")]
        document = Document(fragment)
        document.compact(0, 8)
        short = document.content()
        self.assertNotEqual(short, fragment)
        self.assertIsNone(document.undo())
        self.assertEqual(document.content(), fragment)
        self.assertIsNone(document.redo())
        self.assertEqual(document.content(), short)

    def test_edits_that_change_nothing_are_edits_all_the_same(self):
        for edit in (lambda document: document.replace(0, 0, []), lambda document: document.compact(0, 0),
                     lambda document: document.replace(0, 1, flow("a")), lambda document: document.compact(0, 1)):
            document = Document(flow("a"))
            self.assertIsNone(edit(document))
            self.assertIsNone(document.undo())
            self.assert_reason("nothing to undo", document.undo)
            self.assertIsNone(document.redo())
            document.replace(1, 1, flow("b"))
            document.undo()
            self.assertIsNone(edit(document))
            self.assert_reason("nothing to redo", document.redo)
            self.assertEqual(document.text(), "a")

    def test_what_was_undone_cannot_be_redone_behind_an_edit(self):
        document = Document(flow("a"))
        document.replace(1, 1, flow("b"))
        document.replace(1, 1, flow("c"))
        document.undo()
        document.undo()
        document.redo()
        document.replace(0, 1, flow("d"))
        self.assert_reason("nothing to redo", document.redo)
        self.assertEqual(document.text(), "db")
        self.assertEqual(document.undo(), (0, 1, "a"))
        self.assertEqual(document.undo(), (1, 1, ""))
        self.assert_reason("nothing to undo", document.undo)
        self.assertEqual(document.redo(), (1, 0, "b"))
        self.assertEqual(document.redo(), (0, 1, "d"))

    def test_the_latest_hundred_are_kept(self):
        document = Document(flow("x"))
        for k in range(105):
            document.replace(0, document.length(), flow("x" + str(k)))
        for k in range(103, 3, -1):
            document.undo()
            self.assertEqual(document.text(), "x" + str(k))
        self.assert_reason("nothing to undo", document.undo)
        self.assertEqual(document.text(), "x4")
        for k in range(5, 105):
            document.redo()
            self.assertEqual(document.text(), "x" + str(k))
        self.assert_reason("nothing to redo", document.redo)
        for _ in range(100):
            document.undo()
        self.assert_reason("nothing to undo", document.undo)
        self.assertEqual(document.text(), "x4")

    def test_exactly_a_hundred_and_one_more(self):
        document = Document(flow("a"))
        for _ in range(100):
            document.replace(0, 0, flow("b"))
        for _ in range(100):
            document.undo()
        self.assertEqual(document.text(), "a")
        self.assert_reason("nothing to undo", document.undo)
        for _ in range(100):
            document.redo()
        document.compact(0, 1)
        for _ in range(100):
            document.undo()
        self.assertEqual(document.text(), "ba")
        self.assert_reason("nothing to undo", document.undo)


class Errors(WithReasons):
    def edited(self):
        """A document with earlier contents and contents that were undone."""
        document = Document(flow("a b"))
        document.replace(3, 3, flow(" \nc"))
        document.replace(0, 1, flow("A"))
        document.undo()
        return document

    def check(self, reason, name, *arguments):
        document = self.edited()
        before = self.state(document)
        self.assert_reason(reason, getattr(document, name), *arguments)
        self.assertEqual(self.state(document), before)
        self.assertEqual(document.redo(), (0, 1, "A"))
        self.assertEqual(document.undo(), (0, 1, "a"))
        self.assertEqual(document.undo(), (3, 2, ""))
        self.assert_reason("nothing to undo", document.undo)

    def test_outside(self):
        for start, end in ((1, 0), (6, 5), (0, 7), (6, 7), (7, 7), (7, 6), (7, 0), (9, 12), (10 ** 30, 10 ** 30)):
            self.check("outside", "replace", start, end, flow("d"))
            self.check("outside", "replace", start, end, [])
            self.check("outside", "compact", start, end)
            self.check("outside", "source", start, end)

    def test_at_the_ends_it_is_not_outside(self):
        for start, end in ((0, 0), (0, 6), (6, 6)):
            document = self.edited()
            document.source(start, end)
            document.compact(start, end)
            document = self.edited()
            document.replace(start, end, flow("d"))

    def test_places_and_offsets_outside(self):
        for place in (7, 8, 10 ** 30):
            self.check("outside", "to_shown", place)
        for offset in (6, 7, 10 ** 30):
            self.check("outside", "to_source", offset)

    def full(self):
        document = Document(flow("a" * 400))
        for _ in range(4):
            document.replace(0, 0, flow("b" * 400))
        return document

    def test_two_thousand_units_at_most(self):
        document = self.full()
        self.assertEqual(document.length(), 2000)
        self.assert_reason("too long", document.replace, 2000, 2000, flow("c"))
        self.assert_reason("too long", document.replace, 0, 5, flow("c" * 6))
        self.assert_reason("too long", document.replace, 7, 7, flow(" "))
        self.assertEqual(document.text(), "b" * 1600 + "a" * 400)
        self.assertEqual(document.replace(0, 5, flow("c" * 5)), (0, 5, "c" * 5))
        self.assertIsNone(document.replace(2000, 2000, [("breaks", "")]))
        self.assertEqual(document.replace(0, 1, []), (4, 1, ""))
        self.assertEqual(document.replace(1999, 1999, flow("d")), (1999, 0, "d"))
        self.assert_reason("too long", document.replace, 0, 0, flow("e"))

    def test_too_long_changes_nothing(self):
        document = self.full()
        document.undo()
        document.redo()
        document.undo()
        document.replace(0, 0, flow("c" * 399))
        document.undo()
        before = (document.text(), document.content(), document.length())
        self.assert_reason("too long", document.replace, 0, 0, flow("d" * 401))
        self.assertEqual((document.text(), document.content(), document.length()), before)
        self.assertEqual(document.redo(), (0, 0, "c" * 399))
        self.assertEqual(document.undo(), (0, 399, ""))
        self.assertEqual(document.undo(), (800, 400, ""))

    def test_outside_goes_before_too_long(self):
        document = self.full()
        self.assert_reason("outside", document.replace, 1, 0, flow("c" * 400))
        self.assert_reason("outside", document.replace, 0, 2001, flow("c" * 400))
        self.assert_reason("outside", document.replace, 2001, 2001, flow("c"))

    def test_nothing_to_undo_and_nothing_to_redo(self):
        document = Document(flow("a b"))
        before = self.state(document)
        self.assert_reason("nothing to undo", document.undo)
        self.assert_reason("nothing to redo", document.redo)
        self.assertEqual(self.state(document), before)
        document.replace(0, 1, flow("c"))
        self.assert_reason("nothing to redo", document.redo)
        document.undo()
        self.assert_reason("nothing to undo", document.undo)
        self.assertEqual(document.redo(), (0, 1, "c"))


class LongRowsOfCalls(WithReasons):
    def follow(self, source, alphabet, many):
        """Calls on a document and on a model of it, and the changes carried out on a copy of the text."""
        row = [(source.choice(MODES), source.choice(alphabet)) for _ in range(source.randrange(12))]
        document = Document(row)
        model = Model(row)
        copied = slow_shown(row)[0]
        for _ in range(many):
            name, arguments = some_call(source, len(model.row), alphabet)
            reason = model.reason(name, arguments)
            if reason is None:
                model.call(name, arguments)
                told = getattr(document, name)(*arguments)
                copied = changed(copied, told)
                self.assertTrue(told is None or name != "compact", arguments)
            else:
                self.assert_reason(reason, getattr(document, name), *arguments)
            self.assertEqual(document.text(), slow_shown(model.row)[0])
            self.assertEqual(copied, document.text())
            self.assertEqual(document.content(), slow_tidy(model.row))
            self.assertEqual(document.length(), len(model.row))

    def test_long_rows_of_calls(self):
        source = random.Random(21)
        for alphabet in (" \n<>", " \nab^", " \nAB<", " \n|^Aa<>", "a \n", "A\n"):
            for _ in range(6):
                self.follow(source, alphabet, 120)

    def test_all_short_rows_of_calls(self):
        calls = [("replace", (0, 1, [])), ("replace", (1, 1, flow(" b"))), ("compact", (0, 2)), ("undo", ()),
                 ("redo", ())]
        for names in itertools.product(calls, repeat=5):
            document = Document(flow("  a"))
            model = Model(slow_units(flow("  a")))
            for name, arguments in names:
                reason = model.reason(name, arguments)
                if reason is None:
                    model.call(name, arguments)
                    getattr(document, name)(*arguments)
                else:
                    self.assert_reason(reason, getattr(document, name), *arguments)
            self.assertEqual(document.content(), slow_tidy(model.row), names)

    def test_up_to_the_bound_and_through_more_than_a_hundred_edits(self):
        source = random.Random(22)
        document = Document([])
        model = Model([])
        copied = ""
        for k in range(260):
            place = source.randrange(len(model.row) + 1)
            text = "".join(source.choice("ab \nA<") for _ in range(50))
            name, arguments = ("undo", ()) if k % 5 == 4 else ("replace", (place, place, flow(text)))
            reason = model.reason(name, arguments)
            if reason is None:
                model.call(name, arguments)
                copied = changed(copied, getattr(document, name)(*arguments))
            else:
                self.assert_reason(reason, getattr(document, name), *arguments)
                name, arguments = "replace", (place // 2, place, [])
                model.call(name, arguments)
                copied = changed(copied, document.replace(*arguments))
            self.assertEqual(document.length(), len(model.row))
            self.assertEqual(document.text(), copied)
        while model.earlier:
            model.call("undo", ())
            copied = changed(copied, document.undo())
        self.assert_reason("nothing to undo", document.undo)
        self.assertEqual(document.content(), slow_tidy(model.row))
        self.assertEqual(copied, slow_shown(model.row)[0])


class PlacesAndOffsets(WithReasons):
    def check(self, row):
        document = Document(row)
        many = len(slow_units(row))
        text, sources = slow_shown(row)
        offsets = [sum(number < place for number in sources) for place in range(many + 1)]
        self.assertEqual([document.to_shown(place) for place in range(many + 1)], offsets, row)
        for offset in range(len(text) + 1):
            places = [place for place in range(many + 1) if offsets[place] == offset]
            self.assertEqual(document.to_source(offset), (places[0], places[-1]), (row, offset))
        self.assert_reason("outside", document.to_shown, many + 1)
        self.assert_reason("outside", document.to_source, len(text) + 1)

    def test_named_places(self):
        document = Document(flow("  a \n b  "))
        self.assertEqual([document.to_shown(place) for place in range(10)], [0, 0, 0, 1, 1, 2, 2, 3, 3, 3])
        self.assertEqual([document.to_source(offset) for offset in range(4)], [(0, 2), (3, 4), (5, 6), (7, 9)])

    def test_nothing_that_is_shown(self):
        document = Document(flow("  \n"))
        self.assertEqual([document.to_shown(place) for place in range(4)], [0, 0, 0, 0])
        self.assertEqual(document.to_source(0), (0, 3))
        self.assert_reason("outside", document.to_source, 1)
        self.assert_reason("outside", document.to_shown, 4)

    def test_all_short_documents(self):
        for row in [*fragments(ALL_UNITS, 3), *fragments(COLLAPSE_UNITS, 4)]:
            self.check(row)

    def test_long_documents(self):
        for fragment in long_fragments(3, 22):
            self.check(fragment)

    def test_behind_an_edit_and_an_undoing(self):
        document = Document(flow("a b"))
        document.replace(1, 1, flow(" "))
        self.assertEqual(document.to_source(2), (2, 3))
        self.assertEqual(document.to_shown(3), 2)
        document.undo()
        self.assertEqual(document.to_source(2), (2, 2))
        self.assertEqual(document.to_shown(3), 3)

    def test_parts_of_the_source(self):
        row = [("collapse", "a "), ("breaks", " \n"), ("collapse", ""), ("breaks", "b"), ("preserve", "  ")]
        document = Document(row)
        flat = slow_units(row)
        for start, end in itertools.combinations_with_replacement(range(len(flat) + 1), 2):
            self.assertEqual(document.source(start, end), slow_tidy(flat[start:end]))
        self.assertEqual(document.source(1, 5), [("collapse", " "), ("breaks", " \nb")])
        self.assertEqual(document.source(7, 7), [])


class Finding(WithReasons):
    def check(self, row, needle, expected):
        self.assertEqual(Document(row).find(needle), expected, (row, needle))

    def test_ordinary_needles(self):
        self.check(flow("  one \n two one"), "one", [(0, 2, 5), (8, 12, 15)])
        self.check(flow("one \n two"), "e t", [(2, 2, 7)])
        self.check(flow("one \n two"), " ", [(3, 4, 5)])
        self.check(flow("A \nB"), "AB", [(0, 0, 4)])

    def test_needles_that_overlap_themselves(self):
        self.check(flow("aaaa"), "aa", [(0, 0, 2), (1, 1, 3), (2, 2, 4)])
        self.check(flow("a  a\na"), "a a", [(0, 0, 4), (2, 3, 6)])
        self.check(flow("abababa"), "aba", [(0, 0, 3), (2, 2, 5), (4, 4, 7)])

    def test_at_the_ends(self):
        self.check(flow(" ab "), "a", [(0, 1, 2)])
        self.check(flow(" ab "), "b", [(1, 2, 3)])
        self.check(flow(" ab "), "ab", [(0, 1, 3)])
        self.check([("preserve", " ab ")], " ", [(0, 0, 1), (3, 3, 4)])

    def test_needles_that_do_not_occur(self):
        for needle in ("c", "ab ", " ab", "ba", "a  b", "a\nb", "ab" * 300, "%", "\t", "|"):
            self.check(flow(" a b| "), needle, [])
        self.check([], "a", [])

    def test_line_ends_are_line_feeds(self):
        self.check([("collapse", "a | b"), ("breaks", "\nc")], "\n", [(1, 2, 3), (3, 5, 6)])
        self.check(flow("a | b"), "a\nb", [(0, 0, 5)])

    def test_the_text_is_not_a_pattern(self):
        self.check(flow("a.b*[c]"), ".", [(1, 1, 2)])
        self.check(flow("a.b*[c]"), "*[", [(3, 3, 5)])

    def test_behind_edits(self):
        document = Document(flow("ab"))
        document.replace(0, 0, flow("  ab "))
        self.assertEqual(document.find("ab"), [(0, 2, 4), (3, 5, 7)])
        document.undo()
        self.assertEqual(document.find("ab"), [(0, 0, 2)])

    def test_all_needles_of_short_documents(self):
        needles = ["".join(signs) for many in (1, 2, 3) for signs in itertools.product("aA^ \n<", repeat=many)]
        for row in fragments(COLLAPSE_UNITS, 3):
            document = Document(row)
            text, sources = slow_shown(row)
            for needle in needles:
                expected = [(k, sources[k], sources[k + len(needle) - 1] + 1)
                            for k in range(len(text)) if text[k:k + len(needle)] == needle]
                self.assertEqual(document.find(needle), expected, (row, needle))


class WhatBelongsToTheCaller(WithReasons):
    def test_what_was_passed(self):
        fragment = flow("a b")
        other = flow("c")
        document = Document(fragment)
        document.replace(3, 3, other)
        self.assertEqual((fragment, other), (flow("a b"), flow("c")))
        fragment.append(("collapse", "d"))
        other.clear()
        self.assertEqual(document.content(), flow("a bc"))
        document.undo()
        self.assertEqual(document.content(), flow("a b"))
        document.redo()
        self.assertEqual(document.content(), flow("a bc"))

    def test_what_was_returned(self):
        document = Document([("collapse", "a "), ("preserve", "b")])
        document.compact(0, 3)
        before = self.state(document)
        document.content().clear()
        document.source(0, 3).append(("collapse", "c"))
        document.find("a").clear()
        self.assertEqual(self.state(document), before)
        self.assertEqual(document.find("a"), [(0, 0, 1)])
        document.undo()
        self.assertEqual(document.content(), [("collapse", "a "), ("preserve", "b")])


if __name__ == "__main__":
    unittest.main()
