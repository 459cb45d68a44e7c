"""Books: lists of different promises that hold together."""

from surelywhole.claims import is_met, promise_claim
from surelywhole.errors import NoPromise


class Book:
    """Different promises, in the order in which they were made."""

    def __init__(self, schema, *promises):
        different = []
        for promise in promises:
            if promise not in different:
                different.append(promise)
        self.schema = schema
        # This tuple is replaced, never changed, so whoever goes over it meets no change.
        self.promises = tuple(different)

    def __iter__(self):
        return iter(self.promises)

    def __contains__(self, x):
        return x in self.promises

    def make(self, promise):
        """Append the promise and return True, or return False if it is in the book."""
        if promise in self.promises:
            return False
        self.promises = (*self.promises, promise)
        return True

    def withdraw(self, promise):
        """Remove the promise."""
        if promise not in self.promises:
            raise NoPromise(promise)
        self.promises = tuple([other for other in self.promises if other != promise])

    def __le__(self, other):
        """Return whether every promise follows from the other book."""
        if not isinstance(other, Book):
            return NotImplemented
        for promise in self.promises:
            if not is_met(promise_claim(self.schema, promise), other.promises):
                return False
        return True

    def __or__(self, other):
        """Return a new book of these promises and then of the other ones."""
        return Book(self.schema, *self.promises, *other.promises)

    def __and__(self, other):
        """Return a new book of these promises that are in the other book."""
        both = [promise for promise in self.promises if promise in other.promises]
        return Book(self.schema, *both)

    def held(self, promise):
        """Return what makes the promise for a block of a with statement."""
        return Holding(self, promise)

    def kept(self, world, store):
        """Return whether the world and the store keep the book."""
        if not self.schema.holds(world):
            return False
        strange = [row for row in store if row not in world]
        broken = [promise for promise in self.promises if not promise.kept(world, store)]
        return not strange and not broken


class Holding:
    """A promise that a book has during a block."""

    def __init__(self, book, promise):
        self.book = book
        self.promise = promise
        self.before = book.promises

    def __enter__(self):
        self.before = self.book.promises
        self.book.make(self.promise)
        return self.book

    def __exit__(self, kind, value, trace):
        book = self.book
        book.promises = self.before
