"""Point 8: inputs at the limits are answered soon, inputs somewhat beyond them raise no error."""

import time
import unittest

from surelywhole.books import Book
from surelywhole.deciding import decide, pair_lines, parting, supports, weakest, widest
from surelywhole.questions import Promise, Question
from surelywhole.schemas import Schema, Table
from surelywhole.stores import Desk, Store
from tests.reader import Reader, check_kept, check_pair

SECONDS = 5
THREE, FOUR = ("a", "b", "c"), ("a", "b", "c", "d")


class Timed(unittest.TestCase):

    def setUp(self):
        self.begin = time.monotonic()

    def tearDown(self):
        self.assertLess(time.monotonic() - self.begin, SECONDS)


class AtTheLimits(Timed):

    def test_a_world_of_thirty_rows(self):
        schema = Schema(
            Table("p", 3, key=(0, 1), lists={2: THREE}, refers=((0, "q", 0), (1, "r", 2))),
            Table("q", 3, lists={1: THREE}), Table("r", 3, key=(2,)),
        )
        world = [
            row for at in range(10)
            for row in (("p", f"a{at}", f"b{at}", "c"), ("q", f"a{at}", "b", "z"), ("r", "x", "y", f"b{at}"))
        ]
        self.assertIs(schema.holds(world), True)
        self.assertIs(schema.holds(world[:-1]), False)
        self.assertIs(schema.holds([*world, ("r", "y", "y", "b9")]), False)

    def test_a_promise_in_a_world_of_thirty_rows(self):
        schema = Schema(Table("p", 3))
        world = [("p", f"a{at}", f"b{at}", f"c{at}") for at in range(30)]
        free = Promise(schema, ("p", "?a", "?b", "?c"), ("p", "?d", "?e", "?f"), ("p", "?g", "?h", "?i"))
        self.assertIs(free.kept(world, world), True)
        self.assertIs(free.kept(world, world[1:]), False)
        ring = Promise(schema, ("p", "?a", "?b", "?c"), ("p", "?d", "?e", "?f"), ("p", "?f", "?g", "?d"))
        self.assertIs(ring.kept(world, []), True)

    def test_four_conditions_of_three_values(self):
        schema = Schema(Table("p", 3, refers=((0, "q", 0), (1, "q", 1))), Table("q", 3), Table("r", 3))
        names = ("?x", "?y", "?z", "?u")
        parts = (("p", "?x", "?y", "?z"), ("p", "?y", "?z", "?u"), ("p", "?z", "?u", "?v"))
        question = Question(schema, names, *parts, among={name: THREE for name in names})
        other = Question(schema, names, *parts, among={name: THREE for name in names})
        self.assertIs(question <= other, True)
        last = Question(schema, names, *parts, among={**other.among, "?u": ("a", "b")})
        self.assertIs(question <= last, False)
        self.assertIs(last <= question, True)

    def test_two_lists_in_two_ways(self):
        schema = Schema(
            Table("p", 3, refers=((0, "q", 0), (1, "q", 0))), Table("q", 3, lists={1: THREE, 2: THREE}), Table("r", 3)
        )
        question = Question(schema, ("?x",), ("p", "?x", "?y", "?z"))
        wide = Question(schema, ("?x",), ("p", "?x", "?y", "?z"), ("q", "?x", "?u", "?v"), ("q", "?y", "?w", "?t"),
                        among={"?u": THREE, "?v": THREE, "?w": THREE, "?t": THREE})
        self.assertIs(question <= wide, True)
        self.assertIs(question <= (wide & ("?t", ("a", "b"))), False)
        self.assertIs(question <= Question(schema, ("?x",), ("q", "?x", "?u", "?u")), False)


class DecidingAtTheLimits(Timed):
    """A question of 3 parts with 4 places of 3 values each under a book of 6 promises."""

    def setUp(self):
        super().setUp()
        self.schema = Schema(Table("p", 3, refers=((0, "q", 0), (1, "q", 0))), Table("q", 3), Table("r", 3))
        self.parts = (("p", "?x", "?y", "?a"), ("p", "?y", "?z", "?b"), ("p", "?z", "?u", "?c"))
        self.among = {name: THREE for name in ("?a", "?b", "?c", "?u")}
        self.part, self.led = ("p", "?x", "?y", "?a"), ("q", "?x", "?s", "?t")
        self.promises = [Promise(self.schema, self.part, self.led, among={"?a": (value,)}) for value in THREE]
        self.promises += [
            Promise(self.schema, self.part, ("q", "?y", "?s", "?t"), among={"?a": values, "?y": THREE})
            for values in (("a", "b"), ("b", "c"), ("a", "c"))
        ]
        self.book = Book(self.schema, *self.promises)

    def ask(self, duplicates):
        return Question(self.schema, ("?x", "?y", "?z", "?u"), *self.parts, among=self.among, duplicates=duplicates)

    def test_whole(self):
        for duplicates in (False, True):
            question = self.ask(duplicates)
            reader = Reader(self.book, question)
            reader.read(decide(self.book, question).tree)
            self.assertEqual(reader.kinds["whole"], 81)
            self.assertEqual(supports(self.book, question), [(0, 1, 2)])
            self.assertEqual(weakest(self.book, question), [])

    def test_not_whole(self):
        book = Book(self.schema, *self.promises[1:])
        for duplicates in (False, True):
            question = self.ask(duplicates)
            pair = decide(book, question)
            check_pair(book, question, pair)
            # A row of p whose second value is none of the three, the last row, and the two of q.
            self.assertEqual(len(pair.world), 4)
            self.assertEqual(len(pair_lines(pair)), 4)
            self.assertEqual(supports(book, question), [])
            self.assertEqual([one.part for one in weakest(book, question)], list(self.parts[:2]))

    def test_a_pair_of_many_rows(self):
        book = Book(
            self.schema, Promise(self.schema, ("p", "?x", "?x", "?y")), Promise(self.schema, self.part, ("p", "?y", "?x", "?b")),
            Promise(self.schema, self.part, ("q", "?x", "?y", "?z")), Promise(self.schema, self.part, ("q", "?y", "?x", "?z")),
            Promise(self.schema, self.part, ("p", "?z", "?x", "?b"), among={"?a": ("a", "b")}),
            Promise(self.schema, self.part, ("p", "?z", "?x", "?b"), among={"?b": ("b", "c"), "?a": ("c",)}),
        )
        for duplicates in (False, True):
            question = self.ask(duplicates)
            check_pair(book, question, decide(book, question))
        free = Question(self.schema, (), *[("p", f"?x{at}", f"?y{at}", f"?z{at}") for at in range(3)])
        check_pair(book, free, decide(book, free))

    def test_books(self):
        other = Book(self.schema, *self.promises[1:])
        self.assertIs(other <= self.book, True)
        self.assertIs(self.book <= other, False)
        pair = parting(self.book, other)
        check_kept(self.schema.named, list(other), pair)
        self.assertEqual(len(pair.world), 2)
        lists = Schema(Table("p", 3, refers=((0, "q", 0),)), Table("q", 3, lists={1: THREE, 2: THREE}), Table("r", 3))
        part, led = ("p", "?x", "?y", "?z"), ("q", "?x", "?a", "?b")
        partners = ("p", "?y", "?z", "?x"), ("r", "?x", "?y", "?z")
        one = Book(lists, *[Promise(lists, part, *partners[:at % 2 + 1], ("q", "?x", "a", f"?b{at}")) for at in range(6)])
        every = Book(lists, *[Promise(lists, part, led, among={"?a": (value,)}) for value in THREE])
        self.assertIs(one <= every, True)
        self.assertIs(every <= one, False)
        self.assertEqual(len(parting(every, one).world), 2)

    def test_widest(self):
        base = Question(self.schema, ("?x", "?y"), *self.parts, among={"?u": THREE})
        options = [(name, THREE) for name in ("?a", "?b", "?c", "?b")] + [("?a", ("a", "b"))]
        self.assertEqual(widest(self.book, base, options, 5), [(0, 1, 2), (0, 2, 3), (0, 1, 2, 3)])
        full = Book(self.schema, Promise(self.schema, self.part))
        self.assertEqual(widest(full, base, options, 5), [()])
        one = Question(self.schema, ("?x",), self.part, among={"?a": THREE})
        parts = [("q", "?x", "?d", "?e"), ("q", "?y", "?d", "?e"), ("r", "?a", "?x", "?y"), self.part, ("p", "?y", "?x", "?a")]
        self.assertEqual(widest(self.book, one, parts, 5)[:2], [(), (3,)])

    def test_a_desk_of_six_questions(self):
        desk = Desk(Book(self.schema, *self.promises[:2]))
        for at in range(6):
            self.assertIs(desk.watch(f"q{at}", self.ask(at < 3)), False)
        names = [f"q{at}" for at in range(6)]
        self.assertEqual(desk.make(self.promises[3]), [])
        self.assertEqual(desk.make(self.promises[2]), names)
        self.assertEqual(desk.withdraw(self.promises[0]), names)

    def test_a_store_of_thirty_rows(self):
        store = Store(self.schema)
        store["p"] = [("a", "a", THREE[at % 3]) for at in range(30)] + [(f"a{at}", "b", "c") for at in range(27)]
        self.assertEqual(len(list(store)), 30)
        free = Question(self.schema, ("?x1",), *[("p", f"?x{at}", f"?y{at}", f"?z{at}") for at in range(3)])
        self.assertEqual(len(store.answers(free)), 28)
        often = Question(self.schema, (), *free.parts, duplicates=True)
        self.assertEqual(store.answers(often), [()] * 27000)
        self.assertEqual(store.total(often, Book(self.schema, Promise(self.schema, self.part))), 27000)


class DecidingBeyondTheLimits(unittest.TestCase):

    def setUp(self):
        self.schema = Schema(
            Table("averylongname", 4, key=(0, 1), lists={3: FOUR}, refers=((0, "q", 0), (1, "q", 1), (2, "t", 0))),
            Table("q", 4, refers=((3, "t", 1),)), Table("r", 2), Table("t", 2), Table("u", 1, lists={0: tuple("abcdefgh")}),
        )
        self.parts = (
            ("averylongname", "?x", "?y", "?z", "?u"), ("averylongname", "?x", "?y", "?v", "?w"), ("q", "?x", "?y", "?s", "?t"),
            ("r", "?s", "?n"), ("u", "?o"),
        )
        self.question = Question(
            self.schema, ("?x", "?y", "?z", "?u", "averylongvalue"), *self.parts,
            among={"?u": FOUR, "?o": FOUR, "?s": FOUR}, duplicates=True,
        )
        self.promises = [Promise(self.schema, self.parts[0]), Promise(self.schema, self.parts[2], *self.parts)]
        self.promises += [
            Promise(self.schema, ("u", value), *[("r", "?x", f"?y{at}") for at in range(4)]) for value in "abcdefgh"
        ]

    def test_decide(self):
        whole = Book(self.schema, *self.promises, Promise(self.schema, ("r", "?x", "?y")))
        reader = Reader(whole, self.question)
        reader.read(decide(whole, self.question).tree)
        book = Book(self.schema, *self.promises)
        check_pair(book, self.question, decide(book, self.question))
        self.assertEqual(len(supports(whole, self.question)), 1)
        self.assertEqual([one.part[0] for one in weakest(book, self.question)], ["r"])
        self.assertEqual([row[0] for row in parting(whole, book).world], ["r"])
        self.assertEqual(parting(book, whole), None)

    def test_widest(self):
        options = [("?x", FOUR), ("?y", FOUR), ("r", "?x", "?y"), self.parts[0], ("?x", FOUR[:2]), ("q", "?x", "?y", "?y", "?z")]
        options.append(("r", "?y", "?y"))
        book = Book(self.schema, *self.promises)
        base = Question(self.schema, ("?x",), self.parts[0])
        self.assertEqual(widest(book, base, options, 9), [(), (3,)])
        self.assertEqual(widest(book, self.question, options, 9), [])

    def test_a_store_of_many_rows_and_a_desk_of_many_questions(self):
        store, desk = Store(self.schema), Desk(Book(self.schema, *self.promises))
        store["r"] = [(f"averylongvalue{at % 7}", f"b{at}") for at in range(60)]
        parts = [("r", "?x", "?y"), ("r", "?x", "?z"), ("r", "?u", "?v"), ("r", "?w", "?s")]
        question = Question(self.schema, ("?x", "?y", "?x", "?y", "?x"), *parts)
        self.assertEqual(len(store.answers(question)), 60)
        for at in range(10):
            desk.watch(f"question{at}", question)
        self.assertEqual(len(desk.make(Promise(self.schema, parts[0]))), 10)


class BeyondTheLimits(unittest.TestCase):

    def setUp(self):
        self.schema = Schema(
            Table("averylongname", 4, key=(0, 1, 2), lists={3: FOUR}, refers=((0, "q", 0), (1, "r", 3), (2, "t", 0))),
            Table("q", 4, refers=((1, "t", 0),)), Table("r", 5, key=(0,), lists={1: FOUR, 2: FOUR}),
            Table("t", 1, lists={0: tuple("abcdefgh")}),
        )

    def test_a_wide_question(self):
        part = ("averylongname", "?x", "?y", "?z", "?u")
        names = ("?x", "?y", "?z", "?u", "?v", "?x")
        parts = (
            part, ("q", "?x", "?y", "?y", "?z"), ("q", "?z", "?z", "?v", "?x"), ("t", "?z"), ("q", "?v", "a", "b", "?y"),
        )
        question = Question(self.schema, names, *parts, among={"?x": FOUR, "?y": FOUR, "?v": FOUR})
        self.assertIs(question <= Question(self.schema, names, *parts), True)
        self.assertIs(question <= Question(self.schema, ("?x",), part), False)
        self.assertIs(question <= question & ("?v", tuple("abcdefgh")), True)
        self.assertIs(question <= question & ("?v", ("a",)) & ("q", "?x", "?x", "?x", "?x"), False)

    def test_a_world_of_many_rows(self):
        world = [("r", f"longvalue{at}", "a", "b", "c", "d") for at in range(60)]
        self.assertIs(self.schema.holds(world), True)
        self.assertIs(self.schema.holds([*world, ("t", "i")]), False)
        partners = [("r", f"?x{at}", "?a", "?b", "?c", "?d") for at in range(5)]
        promise = Promise(self.schema, ("r", "?x", "?a", "?b", "?c", "?d"), *partners, among={"?a": tuple("abcdefg")})
        self.assertIs(promise.kept(world, world), True)
        self.assertIs(promise.kept(world, world[:-1]), False)

    def test_partners_that_cannot_be_there(self):
        schema = Schema(Table("p", 1), Table("q", 1))
        world = [("p", f"a{at}") for at in range(40)]
        partners = [("p", f"?x{at}") for at in range(5)]
        for mixed in ((*partners, ("q", "?y")), (("q", "?y"), *partners)):
            promise = Promise(schema, ("p", "?x"), *mixed)
            self.assertIs(promise.kept(world, []), True)
            self.assertIs(promise.kept([*world, ("q", "a")], world[1:]), False)

    def test_no_tables_and_no_columns(self):
        self.assertIs(Schema().holds([]), True)
        self.assertIs(Schema(Table("p", 0)).holds([("p",)]), True)

    def test_a_list_with_no_value(self):
        schema = Schema(Table("p", 1, lists={0: ()}), Table("q", 1))
        self.assertIs(schema.holds([("p", "a")]), False)
        self.assertIs(Question(schema, (), ("p", "?x")) <= Question(schema, (), ("q", "a")), True)
