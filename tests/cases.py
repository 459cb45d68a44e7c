"""Small random cases: schemas, questions, promises, each the same for the same number."""

import random

from surelywhole.books import Book
from surelywhole.questions import Promise, Question
from surelywhole.schemas import Schema, Table

VALUES = ("a", "b")
VARIABLES = ("?x", "?y", "?z", "?u")


class Case:
    """A schema, a question and two books."""

    def __init__(self, number, *, most_parts=3, most_promises=4, widths=(1, 2, 2, 3), variables=VARIABLES):
        self.random = random.Random(number)
        self.widths = widths
        self.variables = variables
        self.schema = self.make_schema()
        self.tables = self.schema.named
        self.question = self.make_question(self.random.randint(1, most_parts))
        self.book = self.make_book(most_promises)
        self.other = self.make_book(most_promises)

    def make_schema(self):
        names = ("p", "q", "r")[:self.random.choice((1, 2, 2, 3))]
        width = {name: self.random.choice(self.widths) for name in names}
        lists = {name: {} for name in names}
        refers = {name: () for name in names}
        for _ in range(self.random.choice((0, 0, 1, 2))):
            name = self.random.choice(names)
            lists[name][self.random.randrange(width[name])] = self.some_values(1)
        for _ in range(self.random.choice((0, 1, 1, 2))):
            at, to = sorted(self.random.choices(range(len(names)), k=2))
            if at < to:
                columns = self.random.randrange(width[names[at]]), self.random.randrange(width[names[to]])
                refers[names[at]] += ((columns[0], names[to], columns[1]),)
        keys = {
            name: self.random.sample(range(width[name]), self.random.randint(1, width[name]))
            if self.random.random() < 0.4 else () for name in names
        }
        return Schema(*[
            Table(name, width[name], key=keys[name], lists=lists[name], refers=refers[name]) for name in names
        ])

    def some_values(self, least):
        return tuple(self.random.sample(VALUES, self.random.randint(least, len(VALUES))))

    def some_among(self, parts, chance):
        names = sorted({term for part in parts for term in part[1:] if term.startswith("?")})
        return {name: self.some_values(0 if self.random.random() < 0.1 else 1)
                for name in names if self.random.random() < chance}

    def make_part(self):
        table = self.random.choice(list(self.tables.values()))
        terms = [
            self.random.choice(self.variables if self.random.random() < 0.85 else VALUES) for _ in range(table.width)
        ]
        return (table.name, *terms)

    def make_question(self, many):
        parts = [self.make_part() for _ in range(many)]
        names = [term for part in parts for term in part[1:]] + ["a"]
        head = [self.random.choice(names) for _ in range(self.random.choice((0, 1, 1, 2, 4)))]
        among = self.some_among(parts, 0.15)
        return Question(self.schema, head, *parts, among=among, duplicates=self.random.random() < 0.5)

    def make_promise(self):
        """A promise that often has to do with the question."""
        if self.random.random() < 0.25:
            parts = [self.make_part() for _ in range(self.random.randint(1, 3))]
            return Promise(self.schema, *parts, among=self.some_among(parts, 0.2))
        parts = list(self.question.parts)
        first = parts.pop(self.random.randrange(len(parts)))
        parts = [first, *[part for part in parts if self.random.random() < 0.5]]
        among = self.some_among(parts, 0.15)
        for name, values in self.question.among.items():
            if self.random.random() < 0.5 and any(name in part for part in parts):
                among[name] = values
        return Promise(self.schema, *parts, among=among)

    def make_book(self, most):
        return Book(self.schema, *[self.make_promise() for _ in range(self.random.randint(0, most))])
