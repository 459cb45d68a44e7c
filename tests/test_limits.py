"""Point 8: inputs at the limits are answered soon, inputs somewhat beyond them raise no error."""

import time
import unittest

from surelywhole.questions import Promise, Question
from surelywhole.schemas import Schema, Table

SECONDS = 5
THREE, FOUR = ("a", "b", "c"), ("a", "b", "c", "d")


class Timed(unittest.TestCase):

    def setUp(self):
        self.begin = time.monotonic()

    def tearDown(self):
        self.assertLess(time.monotonic() - self.begin, SECONDS)


class AtTheLimits(Timed):

    def test_a_world_of_thirty_rows(self):
        schema = Schema(
            Table("p", 3, key=(0, 1), lists={2: THREE}, refers=((0, "q", 0), (1, "r", 2))),
            Table("q", 3, lists={1: THREE}), Table("r", 3, key=(2,)),
        )
        world = [
            row for at in range(10)
            for row in (("p", f"a{at}", f"b{at}", "c"), ("q", f"a{at}", "b", "z"), ("r", "x", "y", f"b{at}"))
        ]
        self.assertIs(schema.holds(world), True)
        self.assertIs(schema.holds(world[:-1]), False)
        self.assertIs(schema.holds([*world, ("r", "y", "y", "b9")]), False)

    def test_a_promise_in_a_world_of_thirty_rows(self):
        schema = Schema(Table("p", 3))
        world = [("p", f"a{at}", f"b{at}", f"c{at}") for at in range(30)]
        free = Promise(schema, ("p", "?a", "?b", "?c"), ("p", "?d", "?e", "?f"), ("p", "?g", "?h", "?i"))
        self.assertIs(free.kept(world, world), True)
        self.assertIs(free.kept(world, world[1:]), False)
        ring = Promise(schema, ("p", "?a", "?b", "?c"), ("p", "?d", "?e", "?f"), ("p", "?f", "?g", "?d"))
        self.assertIs(ring.kept(world, []), True)

    def test_four_conditions_of_three_values(self):
        schema = Schema(Table("p", 3, refers=((0, "q", 0), (1, "q", 1))), Table("q", 3), Table("r", 3))
        names = ("?x", "?y", "?z", "?u")
        parts = (("p", "?x", "?y", "?z"), ("p", "?y", "?z", "?u"), ("p", "?z", "?u", "?v"))
        question = Question(schema, names, *parts, among={name: THREE for name in names})
        other = Question(schema, names, *parts, among={name: THREE for name in names})
        self.assertIs(question <= other, True)
        last = Question(schema, names, *parts, among={**other.among, "?u": ("a", "b")})
        self.assertIs(question <= last, False)
        self.assertIs(last <= question, True)

    def test_two_lists_in_two_ways(self):
        schema = Schema(
            Table("p", 3, refers=((0, "q", 0), (1, "q", 0))), Table("q", 3, lists={1: THREE, 2: THREE}), Table("r", 3)
        )
        question = Question(schema, ("?x",), ("p", "?x", "?y", "?z"))
        wide = Question(schema, ("?x",), ("p", "?x", "?y", "?z"), ("q", "?x", "?u", "?v"), ("q", "?y", "?w", "?t"),
                        among={"?u": THREE, "?v": THREE, "?w": THREE, "?t": THREE})
        self.assertIs(question <= wide, True)
        self.assertIs(question <= (wide & ("?t", ("a", "b"))), False)
        self.assertIs(question <= Question(schema, ("?x",), ("q", "?x", "?u", "?u")), False)


class BeyondTheLimits(unittest.TestCase):

    def setUp(self):
        self.schema = Schema(
            Table("averylongname", 4, key=(0, 1, 2), lists={3: FOUR}, refers=((0, "q", 0), (1, "r", 3), (2, "t", 0))),
            Table("q", 4, refers=((1, "t", 0),)), Table("r", 5, key=(0,), lists={1: FOUR, 2: FOUR}),
            Table("t", 1, lists={0: tuple("abcdefgh")}),
        )

    def test_a_wide_question(self):
        part = ("averylongname", "?x", "?y", "?z", "?u")
        names = ("?x", "?y", "?z", "?u", "?v", "?x")
        parts = (
            part, ("q", "?x", "?y", "?y", "?z"), ("q", "?z", "?z", "?v", "?x"), ("t", "?z"), ("q", "?v", "a", "b", "?y"),
        )
        question = Question(self.schema, names, *parts, among={"?x": FOUR, "?y": FOUR, "?v": FOUR})
        self.assertIs(question <= Question(self.schema, names, *parts), True)
        self.assertIs(question <= Question(self.schema, ("?x",), part), False)
        self.assertIs(question <= question & ("?v", tuple("abcdefgh")), True)
        self.assertIs(question <= question & ("?v", ("a",)) & ("q", "?x", "?x", "?x", "?x"), False)

    def test_a_world_of_many_rows(self):
        world = [("r", f"longvalue{at}", "a", "b", "c", "d") for at in range(60)]
        self.assertIs(self.schema.holds(world), True)
        self.assertIs(self.schema.holds([*world, ("t", "i")]), False)
        partners = [("r", f"?x{at}", "?a", "?b", "?c", "?d") for at in range(5)]
        promise = Promise(self.schema, ("r", "?x", "?a", "?b", "?c", "?d"), *partners, among={"?a": tuple("abcdefg")})
        self.assertIs(promise.kept(world, world), True)
        self.assertIs(promise.kept(world, world[:-1]), False)

    def test_partners_that_cannot_be_there(self):
        schema = Schema(Table("p", 1), Table("q", 1))
        world = [("p", f"a{at}") for at in range(40)]
        partners = [("p", f"?x{at}") for at in range(5)]
        for mixed in ((*partners, ("q", "?y")), (("q", "?y"), *partners)):
            promise = Promise(schema, ("p", "?x"), *mixed)
            self.assertIs(promise.kept(world, []), True)
            self.assertIs(promise.kept([*world, ("q", "a")], world[1:]), False)

    def test_no_tables_and_no_columns(self):
        self.assertIs(Schema().holds([]), True)
        self.assertIs(Schema(Table("p", 0)).holds([("p",)]), True)

    def test_a_list_with_no_value(self):
        schema = Schema(Table("p", 1, lists={0: ()}), Table("q", 1))
        self.assertIs(schema.holds([("p", "a")]), False)
        self.assertIs(Question(schema, (), ("p", "?x")) <= Question(schema, (), ("q", "a")), True)
