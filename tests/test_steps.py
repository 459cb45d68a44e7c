"""The steps by which a question's parts become the least worlds."""

import unittest

from surelywhole.questions import Question
from surelywhole.schemas import Schema, Table
from surelywhole.steps import next_step, states_after

SCHEMA = Schema(
    Table("p", 2, key=(0,), refers=((1, "q", 1),)), Table("q", 3, lists={0: ("a", "b")}), Table("r", 1, lists={0: ("c",)}),
)


def step(*parts, among=None):
    return next_step(Question(SCHEMA, (), *parts, among=among), parts)


class Steps(unittest.TestCase):

    def test_conditions_come_first(self):
        parts = (("p", "?x", "a"), ("p", "?x", "?y"), ("r", "z"))
        self.assertEqual(step(*parts, among={"?y": ("b", "a"), "?x": ("d",)}), ("choose", "?x", ("d",)))
        question = Question(SCHEMA, (), *parts, among={"?y": ("b", "a"), "?x": ("d",)})
        self.assertEqual(next_step(question, (("p", "d", "a"), ("p", "d", "?y"))), ("choose", "?y", ("a", "b")))

    def test_none(self):
        self.assertEqual(step(("p", "?x", "a"), ("p", "?x", "?y"), ("p", "?x", "b")), ("none",))
        self.assertEqual(step(("r", "?x"), ("r", "z")), ("none",))

    def test_same(self):
        self.assertEqual(step(("r", "?z"), ("p", "?x", "a"), ("p", "?x", "?y")), ("same", 1, 2, 1))

    def test_partner(self):
        kind, i, k, part = step(("q", "?n0", "?n1", "?x"), ("p", "?x", "?y"))
        self.assertEqual((kind, i, k), ("partner", 1, 0))
        self.assertEqual((part[0], part[2]), ("q", "?y"))
        self.assertEqual(len({*part[1:], "?n0", "?n1", "?x"}), 6)

    def test_lists_come_last(self):
        self.assertEqual(step(("p", "?x", "?y"), ("q", "?z", "?y", "?x")), ("choose", "?z", ("a", "b")))
        self.assertIsNone(step(("p", "?x", "?y"), ("q", "a", "?y", "?x")))


class States(unittest.TestCase):

    def test_choose(self):
        self.assertEqual(
            states_after(("choose", "?x", ("a", "b")), (("p", "?x", "?y"), ("r", "?x")), ("?x", "?y")),
            [((("p", "a", "?y"), ("r", "a")), ("a", "?y")), ((("p", "b", "?y"), ("r", "b")), ("b", "?y"))],
        )

    def test_same_replaces_a_variable_by_a_value_and_the_greater_by_the_lesser(self):
        for first, second, gone, kept in (
            ("?x", "a", "?x", "a"), ("a", "?x", "?x", "a"), ("?x", "?y", "?y", "?x"), ("?y", "?x", "?y", "?x"),
        ):
            parts = (("p", "?z", first), ("p", "?z", second), ("r", gone))
            left = (("p", "?z", kept), ("p", "?z", kept), ("r", kept))
            self.assertEqual(states_after(("same", 0, 1, 1), parts, (gone, "?z")), [(left, (kept, "?z"))])

    def test_partner_and_none(self):
        parts, part = (("p", "?x", "?y"),), ("q", "?n0", "?y", "?n1")
        self.assertEqual(states_after(("partner", 0, 0, part), parts, ("?x",)), [((*parts, part), ("?x",))])
        self.assertEqual(states_after(("none",), parts, ("?x",)), [])
