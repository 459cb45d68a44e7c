"""The reader of derivations takes what point 9 allows, and nothing else."""

import unittest

from surelywhole.books import Book
from surelywhole.questions import Promise, Question
from surelywhole.schemas import Schema, Table
from tests.reader import Reader

SCHEMA = Schema(
    Table("p", 2, key=(0,), refers=((1, "q", 0),)), Table("q", 2), Table("r", 2, lists={1: ("b", "a")}), Table("s", 2),
)


class Readings(unittest.TestCase):

    def setUp(self):
        self.book = Book(
            SCHEMA, Promise(SCHEMA, ("s", "?x", "?y")), Promise(SCHEMA, ("p", "?x", "?y"), ("q", "?y", "?z")),
            Promise(SCHEMA, ("r", "?x", "?y"), among={"?y": ("a",)}), Promise(SCHEMA, ("r", "?x", "b")),
        )

    def ask(self, head, *parts, among=None, duplicates=False):
        self.question = Question(SCHEMA, head, *parts, among=among, duplicates=duplicates)

    def assert_reads(self, tree, kinds):
        reader = Reader(self.book, self.question)
        reader.read(tree)
        self.assertEqual("".join(sorted(kind[0] for kind in reader.kinds.elements())), kinds)

    def assert_refuses(self, *trees):
        for tree in trees:
            with self.assertRaises((AssertionError, ValueError, TypeError, IndexError), msg=tree):
                Reader(self.book, self.question).read(tree)

    def test_whole(self):
        self.ask(("?x",), ("s", "?x", "?y"), ("s", "?x", "?z"))
        self.assert_reads(("whole", ((0, (0,)),), (0, 0)), "w")
        self.assert_reads(("whole", ((0, (1,)), (0, (0,))), (1, 0)), "w")
        self.assert_refuses(
            ("whole", ((0, (0,)),), (0, 1)), ("whole", ((0, (0,)),), (0,)), ("whole", ((1, (0,)),), (0, 0)),
            ("whole", ((0, (0, 1)),), (0, 0)), ("whole", [(0, (0,))], (0, 0)), ("whole", ((0, [0]),), (0, 0)),
            ("whole", ((0, (0,)),), [0, 0]), ("whole", ((0, (0,)),), (0, 0), ()), ("whole", ((4, (0,)),), (0, 0)),
            ("whole", ((0, (2,)),), (2, 2)), ["whole", ((0, (0,)),), (0, 0)], ("none",), ("hole",),
        )
        self.ask(("?x",), ("s", "?x", "?y"), ("s", "?z", "?y"))
        self.assert_reads(("whole", ((0, (0,)),), (0, 0)), "w")
        self.assert_refuses(("whole", ((0, (1,)),), (1, 1)))

    def test_whole_with_duplicates(self):
        self.ask(("?x",), ("s", "?x", "?y"), ("s", "?x", "?z"), duplicates=True)
        self.assert_reads(("whole", ((0, (0,)), (0, (1,))), (0, 1)), "w")
        self.assert_refuses(("whole", ((0, (0,)),), (0, 0)), ("whole", ((0, (0,)), (0, (1,))), (1, 0)))

    def test_choose_by_a_list(self):
        self.ask((), ("r", "?x", "?y"))
        a, b = ("whole", ((2, (0,)),), (0,)), ("whole", ((3, (0,)),), (0,))
        self.assert_reads(("choose", "?y", (("a", a), ("b", b))), "cww")
        self.assert_refuses(
            ("choose", "?y", (("b", b), ("a", a))), ("choose", "?y", (("a", a),)), ("choose", "?y", (("a", b), ("b", a))),
            ("choose", "?x", (("a", a), ("b", b))), ("choose", "?z", (("a", a), ("b", b))),
            ("choose", "?y", [("a", a), ("b", b)]), ("choose", "?y", (("a", a), ("b", b), ("c", b))), a, b,
        )

    def test_choose_by_a_condition(self):
        self.ask(("?x",), ("r", "?x", "?y"), among={"?y": ("b",), "?x": ("d", "c")})
        b = ("whole", ((3, (0,)),), (0,))
        self.assert_refuses(("choose", "?y", (("b", b),)))
        low = ("choose", "?y", (("b", b),))
        self.assert_reads(("choose", "?x", (("c", low), ("d", low))), "cccww")
        self.assert_refuses(("choose", "?x", (("d", low), ("c", low))), ("choose", "?x", (("c", low),)))

    def test_choose_without_a_value(self):
        self.ask((), ("s", "?x", "?y"), among={"?y": ()})
        self.assert_reads(("choose", "?y", ()), "c")
        self.assert_refuses(("choose", "?x", ()), ("none",), ("whole", ((0, (0,)),), (0,)))

    def test_same(self):
        self.ask(("?z",), ("p", "?x", "?z"), ("p", "?x", "?y"), ("q", "?y", "a"))
        whole = ("whole", ((0, (0,)),), (0, 0, 0))
        self.assert_refuses(("same", 0, 1, 1, whole))
        self.ask(("?z",), ("p", "?x", "?z"), ("p", "?x", "?y"), ("s", "?y", "a"))
        partner = ("partner", 0, 0, ("q", "?y", "?w"), ("whole", ((1, (0, 3)), (0, (2,))), (0, 0, 2)))
        self.assert_reads(("same", 0, 1, 1, partner), "psw")
        self.assert_reads(("same", 1, 0, 1, partner), "psw")
        other = ("partner", 0, 0, ("q", "?z", "?w"), ("whole", ((1, (0, 3)), (0, (2,))), (0, 0, 2)))
        self.assert_refuses(
            ("same", 0, 1, 1, other), ("same", 0, 2, 1, partner), ("same", 0, 1, 0, partner), ("same", 0, 0, 1, partner),
            ("same", 0, 1, 2, partner), ("same", 0, 1, 1, ("same", 0, 1, 1, partner)),
        )

    def test_same_with_a_value(self):
        self.ask((), ("p", "?x", "a"), ("p", "?x", "?y"), ("s", "?y", "?x"))
        below = ("partner", 1, 0, ("q", "a", "?w"), ("whole", ((1, (1, 3)), (0, (2,))), (1, 0, 2)))
        self.assert_refuses(("same", 0, 1, 1, below))
        below = ("partner", 1, 0, ("q", "a", "?w"), ("whole", ((1, (1, 3)), (0, (2,))), (1, 1, 2)))
        self.assert_reads(("same", 0, 1, 1, below), "psw")

    def test_partner(self):
        self.ask(("?x",), ("p", "?x", "?y"))
        whole = ("whole", ((1, (0, 1)),), (0,))
        self.assert_reads(("partner", 0, 0, ("q", "?y", "?z"), whole), "pw")
        self.assert_refuses(
            whole, ("partner", 0, 0, ("q", "?y", "?x"), whole), ("partner", 0, 0, ("q", "?z", "?y"), whole),
            ("partner", 0, 0, ("q", "?y", "a"), whole), ("partner", 0, 1, ("q", "?y", "?z"), whole),
            ("partner", 1, 0, ("q", "?y", "?z"), whole), ("partner", 0, 0, ("s", "?y", "?z"), whole),
            ("partner", 0, 0, ("q", "?y"), whole), ("partner", 0, 0, ["q", "?y", "?z"], whole),
            ("partner", 0, 0, ("q", "?y", "?toolongto"), whole), ("partner", 0, 0, ("q", "?y", "?Z"), whole),
        )

    def test_partner_with_a_variable_that_the_question_had(self):
        self.ask((), ("p", "?x", "?y"), ("s", "?z", "?z"), among={"?z": ("a",)})
        whole = ("whole", ((1, (0, 2)), (0, (1,))), (0, 1))
        self.assert_reads(("choose", "?z", (("a", ("partner", 0, 0, ("q", "?y", "?w"), whole)),)), "cpw")
        self.assert_refuses(("choose", "?z", (("a", ("partner", 0, 0, ("q", "?y", "?z"), whole)),)))

    def test_none(self):
        self.ask((), ("r", "?x", "c"))
        self.assert_reads(("none",), "n")
        self.ask((), ("p", "?x", "a"), ("p", "?x", "b"))
        self.assert_reads(("none",), "n")
        self.assert_refuses(("none", ()))
        self.ask((), ("p", "?x", "a"), ("p", "?x", "?y"), ("r", "c", "a"))
        self.assert_refuses(("none",))

    def test_too_many_nodes_on_a_path(self):
        self.ask((), ("p", "?x", "?y"))
        for many in (98, 99, 100):
            tree = ("whole", ((1, (0, 1)),), (0,))
            for at in reversed(range(many)):
                tree = ("partner", 0, 0, ("q", "?y", f"?v{at}"), tree)
            if many < 100:
                self.assert_reads(tree, "p" * many + "w")
            else:
                self.assert_refuses(tree)
