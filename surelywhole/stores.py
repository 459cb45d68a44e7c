"""Stores of some of the world's rows, and desks that watch questions."""

from surelywhole.answers import answers_in
from surelywhole.books import Book
from surelywhole.claims import is_met, whole_claim
from surelywhole.deciding import decide
from surelywhole.errors import Clash, MayLack, NotWhole
from surelywhole.questions import Question
from surelywhole.terms import once


class Store:
    """Rows of the tables of a schema."""

    def __init__(self, schema):
        self.schema = schema
        self.rows = []

    def __iter__(self):
        return iter(self.rows)

    def __contains__(self, x):
        return x in self.rows

    def __getitem__(self, at):
        name = self.schema.table(at).name
        return [row[1:] for row in self.rows if row[0] == name]

    def __setitem__(self, at, worth):
        table = self.schema.table(at)
        rows = [(at, *terms) for terms in worth]
        for number, row in enumerate(rows):
            if table.is_off_list(row) or agrees_with_another(table, row, rows[:number]):
                raise Clash(row[1:])
        others = [row for row in self.rows if row[0] != at]
        self.rows = sorted(once([*others, *rows]), key=str)

    def answers(self, question):
        """Return the question's answers in the store."""
        return answers_in(question, self.rows)

    def sure(self, question, book):
        """Return the question's answers if it is whole under the book."""
        require_whole(book, question)
        return self.answers(question)

    def total(self, question, book):
        """Return the number of the question's answers if it is whole under the book."""
        return len(self.sure(question, book))

    def none(self, question, book):
        """Return whether the question has no answer in the world."""
        if self.answers(question):
            return False
        require_whole(book, Question(question.schema, (), *question.parts, among=question.among))
        return True


def agrees_with_another(table, row, rows):
    """Return whether the row agrees with a different one of the rows."""
    return any([row != other and table.agree(row, other) for other in rows])


def require_whole(book, question):
    """Raise NotWhole if the question is not whole under the book."""
    result = decide(book, question)
    if not result.whole:
        raise NotWhole(result) from MayLack(result.row)


def sure_with(store, book, question, *promises):
    """Return the question's answers if it is whole under the book and the promises."""
    if not promises:
        return store.sure(question, book)
    first, *rest = promises
    with book.held(first) as held:
        return sure_with(store, held, question, *rest)


class Desk:
    """A copy of a book, and questions of which it is known whether they are whole."""

    def __init__(self, book):
        self.book = Book(book.schema, *book.promises)
        self.watched = {}
        self.known = {}

    def watch(self, name, question):
        """Watch the question under this name, and return whether it is whole."""
        self.watched[name] = question
        self.known[name] = self.is_whole_now(name)
        return self.known[name]

    def is_whole(self, name):
        """Return whether the question of this name is whole."""
        return self.known[name]

    def is_whole_now(self, name):
        """Return whether the question of this name is whole under the book as it is."""
        return is_met(whole_claim(self.watched[name]), self.book.promises)

    def make(self, promise):
        """Make the promise, and return the names of the questions that became whole."""
        if not self.book.make(promise):
            return []
        return self.changed([name for name in self.watched if not self.known[name]])

    def withdraw(self, promise):
        """Withdraw the promise, and return the names of the questions that are no longer whole."""
        self.book.withdraw(promise)
        return self.changed([name for name in self.watched if self.known[name]])

    def changed(self, names):
        """Return those of the names whose questions are now whole or not, unlike before."""
        found = [name for name in names if self.is_whole_now(name) != self.known[name]]
        for name in found:
            self.known[name] = not self.known[name]
        return found
