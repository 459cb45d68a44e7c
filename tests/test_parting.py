"""Points 7 and 15: what follows from a book, and pairs that part two books."""

import unittest

from surelywhole.books import Book
from surelywhole.deciding import Pair, parting
from surelywhole.questions import Promise, Question
from surelywhole.schemas import Schema, Table
from tests import reference
from tests.cases import Case
from tests.reader import check_kept

SCHEMA = Schema(
    Table("p", 2, key=(0,), refers=((1, "q", 0),)), Table("q", 2, lists={1: ("a", "b")}), Table("s", 2),
)


def book(*promises, schema=SCHEMA):
    """A book; a promise is a tuple of parts, and a dict of conditions may stand behind them."""
    made = []
    for parts in promises:
        among = parts[-1] if isinstance(parts[-1], dict) else {}
        made.append(Promise(schema, *[part for part in parts if isinstance(part, tuple)], among=among))
    return Book(schema, *made)


class Parted(unittest.TestCase):

    def assert_follows(self, one, other):
        self.assertIs(one <= other, True)
        self.assertIsNone(parting(one, other))

    def assert_parted(self, one, other, many):
        """Hold the pair against point 15, and look whether its world has so many rows."""
        self.assertIs(one <= other, False)
        pair = parting(one, other)
        self.assert_parts(pair, one, other)
        self.assertEqual(len(pair.world), many)
        size = reference.smallest_parting(one.schema.named, one.schema, list(one), list(other))
        self.assertEqual(size, many)
        return pair

    def assert_parts(self, pair, one, other):
        self.assertIsInstance(pair, Pair)
        self.assertIs(pair.whole, False)
        self.assertIsNone(pair.answer)
        check_kept(one.schema.named, list(other), pair)
        self.assertIs(other.kept(pair.world, pair.store), True)
        self.assertIs(one.kept(pair.world, pair.store), False)
        self.assertTrue(any(pair.row in reference.said(promise, pair.world) for promise in one))

    def assert_stronger(self, one, other, many):
        """The other book follows from one, and not the other way round."""
        self.assert_follows(other, one)
        return self.assert_parted(one, other, many)


class Follows(Parted):

    def test_empty_books(self):
        self.assert_follows(book(), book())
        pair = self.assert_stronger(book((("s", "?x", "?y"),)), book(), 1)
        self.assertEqual((pair.world, pair.store), ([pair.row], []))

    def test_other_names_and_another_order(self):
        one = book((("s", "?x", "?y"), ("q", "?y", "?z"), ("s", "?y", "?u")), (("p", "?x", "?y"),))
        other = book((("p", "?u", "?v"),), (("s", "?a", "?b"), ("s", "?b", "?c"), ("q", "?b", "?d")))
        self.assert_follows(one, other)
        self.assert_follows(other, one)

    def test_values_and_repeated_variables(self):
        every = book((("s", "?x", "?y"),))
        for narrow in ((("s", "?x", "?x"),), (("s", "a", "?x"),), (("s", "?x", "b"),), (("s", "a", "b"),)):
            self.assert_stronger(every, book(narrow), 1)
        self.assert_parted(book((("s", "?x", "a"),)), book((("s", "a", "?x"),)), 1)
        self.assert_follows(book((("s", "a", "a"),)), book((("s", "?x", "?x"),)))

    def test_partners(self):
        every, some = book((("s", "?x", "?y"),)), book((("s", "?x", "?y"), ("q", "?y", "?z")))
        pair = self.assert_stronger(every, some, 1)
        self.assertEqual(pair.row[0], "s")
        fewer = book((("s", "?x", "?y"), ("q", "?y", "?z"), ("s", "?y", "?u")))
        self.assert_stronger(some, fewer, 2)
        self.assert_stronger(fewer, book((("s", "?x", "?y"), ("q", "?y", "?z"), ("s", "?y", "?x"))), 3)

    def test_partners_are_not_said(self):
        self.assert_parted(book((("q", "?x", "?y"),)), book((("s", "?x", "?y"), ("q", "?y", "?z"))), 1)
        pair = self.assert_parted(
            book((("q", "?x", "?y"), ("s", "?z", "?x"))), book((("s", "?x", "?y"), ("q", "?y", "?z"))), 2
        )
        self.assertEqual(pair.row[0], "q")

    def test_keys(self):
        low = (("p", "?x", "?y"), ("p", "?x", "a"))
        self.assert_follows(book(low), book((("p", "?x", "a"),)))
        bare = Schema(Table("p", 2), Table("q", 2))
        pair = self.assert_parted(book(low, schema=bare), book((("p", "?x", "a"),), schema=bare), 2)
        self.assertEqual(pair.store, [("p", pair.row[1], "a")])
        self.assert_follows(book((("p", "?x", "a"), ("p", "?x", "b"))), book())

    def test_lists(self):
        both, first = book((("q", "?x", "a"),), (("q", "?x", "b"),)), book((("q", "?x", "a"),))
        every = book((("q", "?x", "?y"),))
        self.assert_follows(every, both)
        self.assert_follows(both, every)
        pair = self.assert_stronger(every, first, 1)
        self.assertEqual(pair.row[2], "b")
        self.assert_follows(book((("q", "?x", "c"),)), book())

    def test_references(self):
        led = book((("p", "?x", "?y"), ("q", "?y", "?z")))
        self.assert_follows(book((("p", "?x", "?y"),)), led)
        cases = book((("p", "?x", "?y"), ("q", "?y", "a")), (("p", "?x", "?y"), ("q", "?y", "b")))
        self.assert_follows(led, cases)
        pair = self.assert_stronger(led, book((("p", "?x", "?y"), ("q", "?y", "a"))), 2)
        self.assertEqual([row[0] for row in pair.world], ["p", "q"])
        self.assertEqual(pair.row, pair.world[0])

    def test_conditions(self):
        part = ("s", "?x", "?y")
        some = book((part, {"?x": ("a", "b")}))
        self.assert_follows(some, book((part, {"?x": ("b",)}), (part, {"?x": ("a",)})))
        self.assert_stronger(book((part, {"?x": ("a", "b", "c")})), some, 1)
        self.assert_stronger(book((part,)), some, 1)
        self.assert_stronger(some, book((("s", "a", "?x"),)), 1)
        self.assert_follows(book((part, {"?x": ()})), book())
        self.assert_parted(some, book((part, {"?y": ("a", "b")})), 1)
        self.assert_follows(book((("q", "?x", "?y"),)), book((("q", "?x", "?y"), {"?y": ("b", "c", "a")})))

    def test_new_values_stand_in_no_promise(self):
        part = ("s", "?x", "?y")
        for at in range(3):
            for other in (
                (("s", f"v{at}", "?x"),), (part, {"?y": (f"v{at}", "a")}), (part, ("s", "?z", f"v{at}")),
                (part, ("s", "?z", "?x"), {"?z": (f"v{at}",)}),
            ):
                self.assert_parted(book((part,)), book(other), 1)

    def test_rows_that_would_agree_cannot_become_one(self):
        schema = Schema(Table("p", 2, key=(0,), refers=((0, "q", 0),)), Table("q", 2))
        self.assert_parted(book((("p", "?x", "a"), ("p", "?y", "b")), schema=schema), book(schema=schema), 4)

    def test_the_smallest_of_several_promises(self):
        other = book((("s", "?x", "?x"),))
        large, small = (("s", "?x", "?y"), ("p", "?y", "?z"), ("p", "?x", "?u")), (("s", "?x", "?y"), ("q", "?y", "?z"))
        for one in (book(large, small), book(small, large)):
            pair = self.assert_parted(one, other, 2)
            self.assertEqual([row[0] for row in pair.world], ["q", "s"])
        self.assert_parted(book((("s", "?x", "?x"),), large), other, 4)

    def test_the_books_stay_as_they_were(self):
        one, other = book((("s", "?x", "?y"),)), book((("s", "?x", "?x"),))
        promises = list(one), list(other)
        pair = parting(one, other)
        pair.world.clear()
        pair.store.append(("s", "a", "a"))
        self.assertEqual((list(one), list(other)), promises)
        self.assertEqual(len(parting(one, other).world), 1)


class Compared(Parted):
    """Random small cases beside the document's words."""

    def test_with_the_worlds_of_one_match_and_what_it_leads_to(self):
        sizes = set()
        for number in range(1000, 1500):
            case = Case(number, widths=(1, 2, 2), variables=("?x", "?y", "?z"))
            with self.subTest(number=number):
                for one, other in ((case.book, case.other), (case.other, case.book)):
                    size = reference.smallest_parting(case.tables, case.schema, list(one), list(other))
                    pair = parting(one, other)
                    self.assertIs(one <= other, size is None)
                    sizes.add(size)
                    if size is None:
                        self.assertIsNone(pair)
                    else:
                        self.assert_parts(pair, one, other)
                        self.assertEqual(len(pair.world), size)
        self.assertLessEqual({None, 1, 2, 3}, sizes)

    def test_with_all_small_worlds(self):
        for number in range(1500, 1540):
            case = Case(number, most_parts=2, most_promises=3, widths=(1, 1, 2), variables=("?x", "?y"))
            pair = parting(case.book, case.other)
            values = sorted({*reference.constants_of(case.tables, *case.book, *case.other), "new0", "new1"})
            most = 3 if pair is None else len(pair.world) - 1
            for world in reference.all_worlds(case.tables, values, min(most, 3 if len(values) < 4 else 2)):
                store = reference.store_of(case.other, world)
                if any(reference.breaks(promise, world, store) for promise in case.book):
                    self.fail(f"{number}: {world} parts the books")

    def test_with_questions(self):
        """A promise whose part has all of its variables and no partners follows if its question is whole."""
        for number in range(200):
            case = Case(number, most_parts=1, widths=(1, 2, 2), variables=("?x", "?y", "?z"))
            part, among = case.question.parts[0], case.question.among
            question = Question(case.schema, (), part, among=among, duplicates=True)
            promise = Promise(case.schema, part, among=among)
            differs = reference.smallest_difference(case.tables, list(case.book), question)
            self.assertIs(Book(case.schema, promise) <= case.book, differs is None)
