"""Points 6, 15 and 18: books, their operators, and promises held for a block."""

import unittest

from surelywhole.books import Book
from surelywhole.errors import NoPromise, WholeError
from surelywhole.questions import Promise
from surelywhole.schemas import Schema, Table

SCHEMA = Schema(
    Table("pupil", 2, key=(0,), refers=((1, "group", 0),)),
    Table("group", 2, key=(0,), lists={1: ("north", "south")}),
    Table("visit", 2),
)


def promise(*parts, **among):
    return Promise(SCHEMA, *parts, among={f"?{name}": values for name, values in among.items()})


def pupils():
    return promise(("pupil", "?p", "?g"))


def northern():
    return promise(("pupil", "?p", "?g"), ("group", "?g", "north"))


def visits(*values):
    return promise(("visit", "?x", "?y"), x=values)


class Promises(unittest.TestCase):

    def setUp(self):
        self.book = Book(SCHEMA, pupils(), visits("a", "b"))

    def assert_has(self, book, *promises):
        self.assertEqual(list(book), list(promises))

    def test_equal_promises_given_at_once(self):
        first, again = visits("a", "b"), visits("b", "a", "b")
        book = Book(SCHEMA, pupils(), first, again, pupils(), northern())
        self.assert_has(book, pupils(), visits("a", "b"), northern())
        self.assertIs(list(book)[1], first)

    def test_equal_promises_made_one_after_the_other(self):
        self.assertIs(self.book.make(northern()), True)
        self.assertIs(self.book.make(northern()), False)
        self.assertIs(self.book.make(pupils()), False)
        self.assertIs(self.book.make(visits("b", "a")), False)
        self.assert_has(self.book, pupils(), visits("a", "b"), northern())

    def test_promises_that_are_not_equal(self):
        for other in (
            promise(("pupil", "?p", "?h")), promise(("pupil", "?p", "?g"), g=("a",)), visits("a"), visits("a", "b", "c"),
            promise(("group", "?g", "north"), ("pupil", "?p", "?g")),
            promise(("pupil", "?p", "?g"), ("visit", "?p", "?g"), ("group", "?g", "?s")),
            promise(("pupil", "?p", "?g"), ("group", "?g", "?s"), ("visit", "?p", "?g")),
        ):
            self.assertNotIn(other, self.book)
            self.assertIs(self.book.make(other), True)
        self.assertEqual(len(list(self.book)), 9)

    def test_withdraw(self):
        there = northern()
        self.book.make(there)
        self.assertIsNone(self.book.withdraw(there))
        self.assert_has(self.book, pupils(), visits("a", "b"))
        self.assertIsNone(self.book.withdraw(visits("b", "a")))
        self.assert_has(self.book, pupils())
        self.assertIsNone(self.book.withdraw(pupils()))
        self.assert_has(self.book)

    def test_withdraw_a_promise_that_is_not_there(self):
        for missing in (northern(), visits("a"), promise(("pupil", "?a", "?b"))):
            with self.assertRaises(NoPromise) as caught:
                self.book.withdraw(missing)
            self.assertIs(caught.exception.promise, missing)
            self.assertIsInstance(caught.exception, WholeError)
            self.assert_has(self.book, pupils(), visits("a", "b"))

    def test_the_order_after_withdrawing_and_making_again(self):
        self.book.make(northern())
        self.book.withdraw(pupils())
        self.assertIs(self.book.make(pupils()), True)
        self.assert_has(self.book, visits("a", "b"), northern(), pupils())

    def test_in(self):
        self.assertIs(pupils() in self.book, True)
        self.assertIs(visits("b", "a") in self.book, True)
        self.assertIs(northern() in self.book, False)
        self.assertIs(pupils() in Book(SCHEMA), False)

    def test_iterating(self):
        self.assertEqual([one.part for one in self.book], [("pupil", "?p", "?g"), ("visit", "?x", "?y")])
        self.assert_has(self.book, *self.book)
        self.assert_has(Book(SCHEMA))
        first, second = self.book
        self.assertEqual((first, second), (pupils(), visits("a", "b")))

    def test_what_was_handed_over_is_changed_afterwards(self):
        given = [pupils(), northern()]
        book = Book(SCHEMA, *given)
        given.clear()
        self.assert_has(book, pupils(), northern())
        copy = list(book)
        copy.pop()
        self.assert_has(book, pupils(), northern())


class Kept(unittest.TestCase):
    WORLD = [
        ("pupil", "ann", "g1"), ("pupil", "bob", "g2"), ("group", "g1", "north"), ("group", "g2", "south"),
        ("visit", "a", "b"),
    ]

    def setUp(self):
        self.book = Book(SCHEMA, northern(), visits("a", "b"))

    def test_what_the_promises_say_is_stored(self):
        for store in (
            [("pupil", "ann", "g1"), ("visit", "a", "b")], [("visit", "a", "b"), ("pupil", "ann", "g1")] * 2, self.WORLD,
        ):
            self.assertIs(self.book.kept(self.WORLD, store), True)

    def test_a_world_that_does_not_keep_the_schema(self):
        stored = [("pupil", "ann", "g1"), ("visit", "a", "b")]
        for world in (
            self.WORLD[:3], [*self.WORLD, ("pupil", "ann", "g2")], [*self.WORLD, ("group", "g3", "west")],
        ):
            self.assertIs(self.book.kept(world, stored), False)
            self.assertIs(Book(SCHEMA).kept(world, []), False)

    def test_a_stored_row_that_is_not_in_the_world(self):
        stored = [("pupil", "ann", "g1"), ("visit", "a", "b")]
        self.assertIs(self.book.kept(self.WORLD, [*stored, ("visit", "c", "c")]), False)
        self.assertIs(Book(SCHEMA).kept(self.WORLD, [("visit", "b", "a")]), False)

    def test_a_said_row_that_is_not_stored(self):
        for stored in ([], [("pupil", "ann", "g1")], [("visit", "a", "b")], [("pupil", "bob", "g2"), ("visit", "a", "b")]):
            self.assertIs(self.book.kept(self.WORLD, stored), False)

    def test_an_empty_book_and_an_empty_world(self):
        self.assertIs(Book(SCHEMA).kept(self.WORLD, []), True)
        self.assertIs(Book(SCHEMA).kept(self.WORLD, self.WORLD), True)
        self.assertIs(Book(SCHEMA).kept([], []), True)
        self.assertIs(self.book.kept([], []), True)
        self.assertIs(self.book.kept([], [("visit", "a", "b")]), False)

    def test_the_arguments_stay_as_they_were(self):
        world, stored = list(self.WORLD), [("visit", "a", "b")]
        self.book.kept(world, stored)
        self.assertEqual((world, stored), (self.WORLD, [("visit", "a", "b")]))


class Operators(unittest.TestCase):

    def setUp(self):
        self.one = Book(SCHEMA, pupils(), visits("a"), northern())
        self.two = Book(SCHEMA, visits("b"), northern(), pupils())

    def assert_as_before(self):
        self.assertEqual(list(self.one), [pupils(), visits("a"), northern()])
        self.assertEqual(list(self.two), [visits("b"), northern(), pupils()])

    def test_or(self):
        both = self.one | self.two
        self.assertIsInstance(both, Book)
        self.assertEqual(list(both), [pupils(), visits("a"), northern(), visits("b")])
        self.assertEqual(list(self.two | self.one), [visits("b"), northern(), pupils(), visits("a")])
        self.assertEqual(list(self.one | Book(SCHEMA)), list(self.one))
        self.assertEqual(list(Book(SCHEMA) | self.one), list(self.one))
        self.assert_as_before()

    def test_and(self):
        both = self.one & self.two
        self.assertIsInstance(both, Book)
        self.assertEqual(list(both), [pupils(), northern()])
        self.assertEqual(list(self.two & self.one), [northern(), pupils()])
        self.assertEqual(list(self.one & Book(SCHEMA)), [])
        self.assertEqual(list(Book(SCHEMA) & self.one), [])
        self.assert_as_before()

    def test_the_new_book_is_changed(self):
        for new in (self.one | self.two, self.one & self.two, self.one | self.one, self.one & self.one):
            new.make(visits("c"))
            new.withdraw(pupils())
            self.assert_as_before()

    def test_a_book_of_the_two_is_changed(self):
        both, common = self.one | self.two, self.one & self.two
        self.one.withdraw(pupils())
        self.two.make(visits("c"))
        self.assertEqual(list(both), [pupils(), visits("a"), northern(), visits("b")])
        self.assertEqual(list(common), [pupils(), northern()])

    def test_what_is_no_book(self):
        for other in (3, [], None, list(self.one)):
            with self.assertRaises(TypeError):
                self.one <= other

    def test_the_comparison_leaves_both_as_they_were(self):
        self.assertIs(self.one <= self.two, False)
        self.assertIs(self.two <= self.one | self.two, True)
        self.assertIs(self.one & self.two <= self.two, True)
        self.assert_as_before()


class Held(unittest.TestCase):

    def setUp(self):
        self.book = Book(SCHEMA, pupils(), visits("a"))
        self.before = [pupils(), visits("a")]

    def test_during_the_block_and_after_it(self):
        with self.book.held(northern()) as held:
            self.assertIs(held, self.book)
            self.assertEqual(list(self.book), [*self.before, northern()])
            self.assertIn(northern(), held)
        self.assertEqual(list(self.book), self.before)

    def test_a_promise_that_is_not_yet_held_for_a_block_is_not_made(self):
        holding = self.book.held(northern())
        self.assertEqual(list(self.book), self.before)
        self.book.make(visits("b"))
        with holding as held:
            self.assertEqual(list(held), [*self.before, visits("b"), northern()])
        self.assertEqual(list(self.book), [*self.before, visits("b")])

    def test_an_error_in_the_block(self):
        for error in (KeyError, NoPromise):
            with self.assertRaises(error):
                with self.book.held(northern()):
                    raise error("a")
            self.assertEqual(list(self.book), self.before)

    def test_a_promise_that_the_book_has_already(self):
        with self.book.held(pupils()) as held:
            self.assertEqual(list(held), self.before)
        self.assertEqual(list(self.book), self.before)

    def test_blocks_one_within_the_other(self):
        with self.book.held(northern()) as outer:
            with outer.held(visits("b")) as inner:
                self.assertIs(inner, self.book)
                self.assertEqual(list(inner), [*self.before, northern(), visits("b")])
                with inner.held(northern()):
                    self.assertEqual(list(inner), [*self.before, northern(), visits("b")])
                self.assertEqual(list(inner), [*self.before, northern(), visits("b")])
            self.assertEqual(list(outer), [*self.before, northern()])
            with self.assertRaises(NoPromise):
                with outer.held(visits("c")):
                    outer.withdraw(visits("d"))
            self.assertEqual(list(outer), [*self.before, northern()])
        self.assertEqual(list(self.book), self.before)

    def test_the_book_is_changed_in_the_block(self):
        with self.book.held(northern()) as held:
            held.withdraw(northern())
            held.withdraw(pupils())
            held.make(visits("b"))
            held.make(pupils())
            self.assertEqual(list(held), [visits("a"), visits("b"), pupils()])
        self.assertEqual(list(self.book), self.before)

    def test_a_block_that_is_left_by_return(self):
        def many():
            with self.book.held(northern()) as held:
                return len(list(held))
        self.assertEqual(many(), 3)
        self.assertEqual(list(self.book), self.before)
