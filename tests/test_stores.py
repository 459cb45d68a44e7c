"""Points 5, 16, 17 and 18: stores, their answers, and desks."""

import random
import unittest

from surelywhole.books import Book
from surelywhole.deciding import Pair
from surelywhole.errors import Clash, MayLack, NoPromise, NotWhole, UnknownTable, WholeError
from surelywhole.questions import Promise, Question
from surelywhole.schemas import Schema, Table
from surelywhole.stores import Desk, Store, sure_with
from tests import reference
from tests.cases import Case
from tests.reader import check_pair

SCHEMA = Schema(
    Table("pupil", 2, key=(0,), refers=((1, "group", 0),)),
    Table("group", 2, key=(0,), lists={1: ("north", "south")}),
    Table("visit", 2),
    Table("mark", 3, key=(0, 2)),
)


def ask(head, *parts, duplicates=False, **among):
    return Question(SCHEMA, head, *parts, among={f"?{name}": values for name, values in among.items()},
                    duplicates=duplicates)


def promise(*parts, **among):
    return Promise(SCHEMA, *parts, among={f"?{name}": values for name, values in among.items()})


PUPILS, GROUPS, VISITS = ("pupil", "?p", "?g"), ("group", "?g", "?s"), ("visit", "?x", "?y")


class Rows(unittest.TestCase):

    def setUp(self):
        self.store = Store(SCHEMA)

    def test_an_empty_store(self):
        self.assertEqual(list(self.store), [])
        self.assertEqual(self.store["visit"], [])
        self.assertNotIn(("visit", "a", "b"), self.store)

    def test_rows_in_any_order_and_twice(self):
        self.store["visit"] = [("b", "a"), ("a1", "b"), ("a", "z"), ("b", "a"), ("a", "9"), ("a", "a")]
        self.assertEqual(self.store["visit"], [("a", "9"), ("a", "a"), ("a", "z"), ("a1", "b"), ("b", "a")])
        self.store["pupil"] = [("ann", "g1"), ("ann", "g1")]
        self.assertEqual(self.store["pupil"], [("ann", "g1")])

    def test_iterating_and_in(self):
        self.store["visit"] = [("b", "a"), ("a", "b")]
        self.store["pupil"] = (("bob", "g2"), ("ann", "g1"))
        self.store["group"] = [("g1", "north")]
        rows = [
            ("group", "g1", "north"), ("pupil", "ann", "g1"), ("pupil", "bob", "g2"), ("visit", "a", "b"),
            ("visit", "b", "a"),
        ]
        self.assertEqual(list(self.store), rows)
        self.assertEqual([row for row in self.store], rows)
        for row in rows:
            self.assertIs(row in self.store, True)
        for row in (("visit", "b", "b"), ("pupil", "a", "b"), ("a", "b"), ("visit", "a"), ("group", "g1", "south")):
            self.assertIs(row in self.store, False)

    def test_a_table_set_twice(self):
        self.store["pupil"] = [("ann", "g1")]
        self.store["visit"] = [("a", "b"), ("b", "c")]
        self.store["visit"] = [("c", "d"), ("b", "c")]
        self.assertEqual(self.store["visit"], [("b", "c"), ("c", "d")])
        self.store["pupil"] = [("ann", "g2")]
        self.assertEqual(list(self.store), [("pupil", "ann", "g2"), ("visit", "b", "c"), ("visit", "c", "d")])
        self.store["visit"] = []
        self.assertEqual(list(self.store), [("pupil", "ann", "g2")])

    def test_the_order_of_tables_with_like_names(self):
        store = Store(Schema(Table("pq", 1), Table("p", 1), Table("paaaaaaa", 1)))
        for name in ("pq", "paaaaaaa", "p"):
            store[name] = [("z",), ("0",)]
        self.assertEqual(list(store), [(name, value) for name in ("p", "paaaaaaa", "pq") for value in ("0", "z")])

    def assert_clash(self, name, rows, row):
        before = list(self.store)
        with self.assertRaises(Clash) as caught:
            self.store[name] = rows
        self.assertEqual(caught.exception.row, row)
        self.assertIsInstance(caught.exception, WholeError)
        self.assertEqual(list(self.store), before)

    def test_a_value_that_is_not_on_its_list(self):
        self.store["group"] = [("g9", "south")]
        self.store["visit"] = [("a", "b")]
        self.assert_clash("group", [("g1", "north"), ("g2", "west"), ("g3", "east")], ("g2", "west"))
        self.assert_clash("group", [("north", "g1")], ("north", "g1"))
        self.assertEqual(self.store["group"], [("g9", "south")])

    def test_rows_that_agree(self):
        self.store["pupil"] = [("bob", "g1")]
        self.assert_clash("pupil", [("ann", "g1"), ("bob", "g2"), ("ann", "g2"), ("bob", "g1")], ("ann", "g2"))
        self.assert_clash("mark", [("a", "b", "c"), ("a", "b", "d"), ("b", "b", "c"), ("a", "c", "c")], ("a", "c", "c"))
        self.store["mark"] = [("a", "b", "c"), ("a", "b", "d"), ("b", "c", "c"), ("a", "b", "c")]
        self.store["pupil"] = [("bob", "g2"), ("bob", "g2")]
        self.assertEqual(self.store["pupil"], [("bob", "g2")])

    def test_the_first_row_that_is_due(self):
        self.assert_clash("group", [("g1", "north"), ("g1", "south"), ("g2", "west")], ("g1", "south"))
        self.assert_clash("group", [("g1", "north"), ("g2", "west"), ("g1", "south")], ("g2", "west"))
        self.assert_clash("group", [("g1", "north"), ("g1", "north"), ("g1", "west")], ("g1", "west"))

    def test_references_need_not_lead_to_a_stored_row(self):
        self.store["pupil"] = [("ann", "g1")]
        self.assertEqual(list(self.store), [("pupil", "ann", "g1")])

    def test_unknown_tables(self):
        self.store["visit"] = [("a", "b")]
        for rows in ([], [("a",)], [("a", "b"), ("a", "b")]):
            with self.assertRaises(UnknownTable) as caught:
                self.store["teacher"] = rows
            self.assertEqual(caught.exception.name, "teacher")
        with self.assertRaises(UnknownTable) as caught:
            self.store["visits"]
        self.assertEqual(caught.exception.name, "visits")
        self.assertEqual(list(self.store), [("visit", "a", "b")])

    def test_what_was_handed_over_is_changed_afterwards(self):
        rows = [("a", "b"), ("b", "c")]
        self.store["visit"] = rows
        self.assertEqual(rows, [("a", "b"), ("b", "c")])
        rows.append(("c", "d"))
        rows[0] = ("d", "e")
        self.assertEqual(self.store["visit"], [("a", "b"), ("b", "c")])

    def test_what_was_returned_is_changed_afterwards(self):
        self.store["visit"] = [("a", "b"), ("b", "c")]
        self.store["visit"].pop()
        self.store.answers(ask(("?x",), VISITS)).clear()
        list(self.store).clear()
        self.assertEqual(self.store["visit"], [("a", "b"), ("b", "c")])
        self.assertEqual(self.store.answers(ask(("?x",), VISITS)), [("a",), ("b",)])

    def test_two_stores(self):
        other = Store(SCHEMA)
        self.store["visit"] = [("a", "b")]
        other["visit"] = [("b", "c")]
        self.assertEqual((list(self.store), list(other)), ([("visit", "a", "b")], [("visit", "b", "c")]))


class Answers(unittest.TestCase):

    def setUp(self):
        self.store = Store(SCHEMA)
        self.store["visit"] = [("b", "a"), ("a", "b"), ("a", "c"), ("a", "a")]

    def test_with_and_without_duplicates(self):
        for head, once, often in (
            (("?x",), [("a",), ("b",)], [("a",)] * 3 + [("b",)]),
            (("?y", "?x"), [("a", "a"), ("a", "b"), ("b", "a"), ("c", "a")], None),
            ((), [()], [()] * 4),
            (("d", "?y", "?y"), [("d", "a", "a"), ("d", "b", "b"), ("d", "c", "c")],
             [("d", "a", "a")] * 2 + [("d", "b", "b"), ("d", "c", "c")]),
        ):
            self.assertEqual(self.store.answers(ask(head, VISITS)), once)
            self.assertEqual(self.store.answers(ask(head, VISITS, duplicates=True)), often or once)

    def test_parts_of_one_question(self):
        chain = VISITS, ("visit", "?y", "?z")
        self.assertEqual(self.store.answers(ask(("?x", "?z"), *chain)), [
            ("a", "a"), ("a", "b"), ("a", "c"), ("b", "a"), ("b", "b"), ("b", "c"),
        ])
        self.assertEqual(self.store.answers(ask(("?x", "?z"), *chain, duplicates=True)), [
            ("a", "a"), ("a", "a"), ("a", "b"), ("a", "c"), ("b", "a"), ("b", "b"), ("b", "c"),
        ])
        self.assertEqual(self.store.answers(ask((), VISITS, ("visit", "?u", "?v"), duplicates=True)), [()] * 16)
        self.assertEqual(self.store.answers(ask((), VISITS, VISITS, duplicates=True)), [()] * 4)

    def test_values_conditions_and_repeated_variables(self):
        self.assertEqual(self.store.answers(ask(("?y",), ("visit", "a", "?y"), y=("b", "c", "d"))), [("b",), ("c",)])
        self.assertEqual(self.store.answers(ask(("?x",), ("visit", "?x", "?x"))), [("a",)])
        self.assertEqual(self.store.answers(ask(("?x",), VISITS, y=())), [])
        self.assertEqual(self.store.answers(ask((), ("visit", "c", "?y"))), [])
        self.assertEqual(self.store.answers(ask(("?x",), VISITS, ("visit", "?y", "b"))), [("a",), ("b",)])

    def test_no_rows(self):
        self.assertEqual(Store(SCHEMA).answers(ask((), VISITS)), [])
        self.assertEqual(self.store.answers(ask((), PUPILS)), [])

    def test_long_values(self):
        self.store["visit"] = [("a", "aa"), ("a0", "a"), ("aa", "a"), ("a", "a")]
        self.assertEqual(self.store.answers(ask(("?x", "?y"), VISITS)), [("a", "a"), ("a", "aa"), ("a0", "a"), ("aa", "a")])

    def test_compared(self):
        for number in range(300):
            case = Case(number, widths=(1, 2, 3))
            chosen = random.Random(number)
            rows = reference.all_rows(case.tables, ("a", "b", "c"))
            rows = [row for row in chosen.sample(rows, min(6, len(rows))) if reference.keeps_keys_and_lists(case.tables, [row])]
            kept = []
            for row in rows:
                if reference.keeps_keys_and_lists(case.tables, [*kept, row]):
                    kept.append(row)
            store = Store(case.schema)
            for name in case.tables:
                store[name] = [row[1:] for row in kept if row[0] == name]
            self.assertEqual(list(store), sorted(kept))
            self.assertEqual(store.answers(case.question), reference.in_order(case.question, kept))


class Sure(unittest.TestCase):

    def setUp(self):
        self.store = Store(SCHEMA)
        self.store["visit"] = [("a", "b"), ("a", "c"), ("b", "b")]
        self.store["pupil"] = [("ann", "g1"), ("bob", "g2")]
        self.visits = Book(SCHEMA, promise(VISITS))

    def assert_not_whole(self, call, book, question):
        """Hold the error against point 17."""
        promises, rows = list(book), list(self.store)
        with self.assertRaises(NotWhole) as caught:
            call()
        pair = caught.exception.pair
        self.assertIsInstance(pair, Pair)
        check_pair(book, question, pair)
        self.assertEqual(len(pair.world), reference.smallest_difference(SCHEMA.named, promises, question))
        cause = caught.exception.__cause__
        self.assertIsInstance(cause, MayLack)
        self.assertEqual(cause.row, pair.row)
        self.assertEqual((list(book), list(self.store)), (promises, rows))

    def test_sure_and_total(self):
        for duplicates, answers in ((False, [("a",), ("b",)]), (True, [("a",), ("a",), ("b",)])):
            question = ask(("?x",), VISITS, duplicates=duplicates)
            self.assertEqual(self.store.sure(question, self.visits), answers)
            self.assertEqual(self.store.total(question, self.visits), len(answers))
        question = ask((), VISITS, x=("c", "d"))
        self.assertEqual(self.store.sure(question, self.visits), [])
        self.assertEqual(self.store.total(question, self.visits), 0)

    def test_what_sure_returned_is_changed_afterwards(self):
        question = ask(("?x",), VISITS)
        self.store.sure(question, self.visits).clear()
        self.assertEqual(self.store.sure(question, self.visits), [("a",), ("b",)])

    def test_not_whole(self):
        some = Book(SCHEMA, promise(VISITS, ("visit", "?y", "?z")))
        for question in (ask(("?x",), VISITS), ask(("?g",), PUPILS), ask((), VISITS, PUPILS, duplicates=True)):
            for book in (some, Book(SCHEMA)):
                self.assert_not_whole(lambda: self.store.sure(question, book), book, question)
                self.assert_not_whole(lambda: self.store.total(question, book), book, question)

    def test_whole_without_duplicates_only(self):
        book = Book(SCHEMA, promise(("visit", "?x", "?y"), ("group", "?y", "?z")), promise(GROUPS))
        parts = VISITS, ("visit", "?x", "?z"), ("group", "?z", "north")
        self.assertEqual(self.store.sure(ask(("?x",), *parts), book), [])
        self.store["group"] = [("b", "north")]
        self.assertEqual(self.store.total(ask(("?x",), *parts), book), 2)
        often = ask(("?x",), *parts, duplicates=True)
        self.assert_not_whole(lambda: self.store.sure(often, book), book, often)
        self.assert_not_whole(lambda: self.store.total(often, book), book, often)

    def test_none_with_an_answer_in_the_store(self):
        for book in (Book(SCHEMA), self.visits):
            for duplicates in (False, True):
                self.assertIs(self.store.none(ask(("?x",), VISITS, duplicates=duplicates), book), False)
                self.assertIs(self.store.none(ask((), PUPILS, g=("g2",), duplicates=duplicates), book), False)

    def test_none_without_one(self):
        for duplicates in (False, True):
            self.assertIs(self.store.none(ask(("?x",), VISITS, x=("d",), duplicates=duplicates), self.visits), True)
            self.assertIs(self.store.none(ask((), VISITS, ("visit", "?y", "a"), duplicates=duplicates), self.visits), True)
            self.assertIs(self.store.none(ask((), ("group", "?g", "west"), duplicates=duplicates), Book(SCHEMA)), True)

    def test_none_where_the_question_itself_is_not_whole(self):
        book = Book(SCHEMA, promise(("visit", "?x", "?y"), ("group", "?y", "?z")), promise(GROUPS))
        parts = VISITS, ("visit", "?x", "?z"), ("group", "?z", "north")
        self.assertIs(self.store.none(ask(("?y",), *parts, duplicates=True), book), True)
        self.assert_not_whole(lambda: self.store.sure(ask(("?y",), *parts), book), book, ask(("?y",), *parts))
        self.assertIs(self.store.none(ask(("?y",), *parts), book), True)

    def test_none_where_it_cannot_be_known(self):
        for book in (Book(SCHEMA), Book(SCHEMA, promise(PUPILS, ("group", "?g", "north")))):
            for duplicates in (False, True):
                question = ask(("?p",), PUPILS, g=("g3",), duplicates=duplicates)
                self.assert_not_whole(lambda: self.store.none(question, book), book, ask((), PUPILS, g=("g3",)))


class SureWith(unittest.TestCase):

    def setUp(self):
        self.store = Store(SCHEMA)
        self.store["visit"] = [("a", "b"), ("b", "b")]
        self.book = Book(SCHEMA, promise(PUPILS))
        self.before = list(self.book)

    def test_promises_that_make_it_whole(self):
        question = ask(("?x",), VISITS, y=("a", "b"))
        first, second = promise(VISITS, y=("a",)), promise(VISITS, y=("b",))
        for promises in ((first, second), (second, first), (promise(VISITS),), (first, first, second, promise(PUPILS))):
            self.assertEqual(sure_with(self.store, self.book, question, *promises), [("a",), ("b",)])
            self.assertEqual(list(self.book), self.before)

    def test_promises_that_do_not(self):
        question = ask(("?x",), VISITS, y=("a", "b"))
        for promises in ((), (promise(VISITS, y=("a",)),), (promise(PUPILS), promise(GROUPS))):
            with self.assertRaises(NotWhole) as caught:
                sure_with(self.store, self.book, question, *promises)
            self.assertEqual(list(self.book), self.before)
            self.assertIsInstance(caught.exception.__cause__, MayLack)
            check_pair(Book(SCHEMA, *self.before, *promises), question, caught.exception.pair)

    def test_no_promises(self):
        self.book.make(promise(VISITS))
        self.assertEqual(sure_with(self.store, self.book, ask(("?y",), VISITS)), [("b",)])
        self.assertEqual(sure_with(self.store, self.book, ask(("?y",), VISITS, duplicates=True)), [("b",), ("b",)])

    def test_a_promise_that_the_book_has_stays_in_it(self):
        self.assertEqual(sure_with(self.store, self.book, ask((), PUPILS), promise(PUPILS)), [])
        self.assertEqual(list(self.book), self.before)


class Desks(unittest.TestCase):

    def setUp(self):
        self.book = Book(SCHEMA, promise(PUPILS))
        self.desk = Desk(self.book)

    def test_watch(self):
        self.assertIs(self.desk.watch("pupils", ask(("?p",), PUPILS)), True)
        self.assertIs(self.desk.watch("visits", ask(("?x",), VISITS)), False)
        self.assertIs(self.desk.is_whole("pupils"), True)
        self.assertIs(self.desk.is_whole("visits"), False)

    def test_its_own_copy_of_the_book(self):
        self.desk.watch("pupils", ask(("?p",), PUPILS))
        self.book.withdraw(promise(PUPILS))
        self.book.make(promise(VISITS))
        self.assertIs(self.desk.is_whole("pupils"), True)
        self.assertIs(self.desk.watch("visits", ask(("?x",), VISITS)), False)
        self.assertIs(self.desk.watch("again", ask((), PUPILS)), True)
        self.assertEqual(self.desk.make(promise(VISITS)), ["visits"])
        self.assertEqual(self.desk.withdraw(promise(PUPILS)), ["pupils", "again"])
        self.assertEqual(list(self.book), [promise(VISITS)])

    def watch_some(self):
        self.desk.watch("visits", ask(("?x",), VISITS))
        self.desk.watch("both", ask((), VISITS, ("group", "?y", "?z")))
        self.desk.watch("pupils", ask((), PUPILS))
        self.desk.watch("again", ask(("?y",), VISITS, duplicates=True))

    def whole(self):
        return [name for name in ("visits", "both", "pupils", "again") if self.desk.is_whole(name)]

    def test_make_and_withdraw(self):
        self.watch_some()
        self.assertEqual(self.whole(), ["pupils"])
        self.assertEqual(self.desk.make(promise(GROUPS)), [])
        self.assertEqual(self.desk.make(promise(VISITS)), ["visits", "both", "again"])
        self.assertEqual(self.whole(), ["visits", "both", "pupils", "again"])
        self.assertEqual(self.desk.make(promise(VISITS, x=("a",))), [])
        self.assertEqual(self.desk.withdraw(promise(VISITS, x=("a",))), [])
        self.assertEqual(self.desk.withdraw(promise(GROUPS)), ["both"])
        self.assertEqual(self.desk.withdraw(promise(PUPILS)), ["pupils"])
        self.assertEqual(self.whole(), ["visits", "again"])
        self.assertEqual(self.desk.make(promise(GROUPS)), ["both"])
        self.assertEqual(self.desk.withdraw(promise(VISITS)), ["visits", "both", "again"])
        self.assertEqual(self.whole(), [])

    def test_the_names_in_order_of_watching(self):
        for name in ("z", "a", "m"):
            self.desk.watch(name, ask((), VISITS))
        self.assertEqual(self.desk.make(promise(VISITS)), ["z", "a", "m"])
        self.assertEqual(self.desk.withdraw(promise(VISITS)), ["z", "a", "m"])

    def test_a_promise_that_is_there_already(self):
        self.watch_some()
        self.assertEqual(self.desk.make(promise(PUPILS)), [])
        self.assertEqual(self.desk.withdraw(promise(PUPILS)), ["pupils"])
        with self.assertRaises(NoPromise):
            self.desk.withdraw(promise(PUPILS))

    def test_a_promise_that_is_not_there(self):
        self.watch_some()
        missing = promise(VISITS)
        with self.assertRaises(NoPromise) as caught:
            self.desk.withdraw(missing)
        self.assertIs(caught.exception.promise, missing)
        self.assertEqual(self.whole(), ["pupils"])
        self.assertEqual(self.desk.make(promise(VISITS)), ["visits", "again"])

    def test_what_was_returned_is_changed_afterwards(self):
        self.watch_some()
        self.desk.make(promise(VISITS)).clear()
        self.assertEqual(self.whole(), ["visits", "pupils", "again"])

    def test_a_desk_without_questions(self):
        self.assertEqual(self.desk.make(promise(VISITS)), [])
        self.assertEqual(self.desk.withdraw(promise(VISITS)), [])
