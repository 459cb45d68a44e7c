"""Points 2, 3, 5, 6 and 14: questions, promises, and a question with an option."""

import unittest
from itertools import combinations

from surelywhole.errors import BadPart, Unbound, UnknownTable
from surelywhole.questions import Promise, Question
from surelywhole.schemas import Schema, Table
from tests import reference

SCHEMA = Schema(Table("pupil", 2), Table("group", 1), Table("club", 3))
NOT_TERMS = (
    "", "?", "abcdefghi", "?abcdefghi", "Ann", "aNn", "?X", "a b", " a", "a ", "? x", "a-b", "a_b", "a.", "x?",
    "a?b", "??", "??x", "?x?", "a\n", "\u00e9", "\u00b2", "\u0661", "?\u00aa", None, 5, ("a",),
)
TERMS = ("a", "z", "0", "9", "abcdefgh", "12345678", "?a", "?0", "?abcdefgh", "?1234567")


class Attributes(unittest.TestCase):

    def test_a_question(self):
        question = Question(
            SCHEMA, ("?p", "g1"), ("pupil", "?p", "?g"), ("group", "?g"), among={"?g": ("g2", "g1")}, duplicates=True
        )
        self.assertEqual(question.head, ("?p", "g1"))
        self.assertEqual(question.parts, (("pupil", "?p", "?g"), ("group", "?g")))
        self.assertEqual(question.among, {"?g": ("g1", "g2")})
        self.assertIs(question.duplicates, True)

    def test_the_defaults_of_a_question(self):
        question = Question(SCHEMA, (), ("group", "g1"))
        self.assertEqual(question.head, ())
        self.assertEqual(question.parts, (("group", "g1"),))
        self.assertEqual(question.among, {})
        self.assertIs(question.duplicates, False)

    def test_a_promise(self):
        promise = Promise(
            SCHEMA, ("pupil", "?p", "?g"), ("group", "?g"), ("club", "?p", "a", "b"), among={"?p": ["b", "a", "b"]}
        )
        self.assertEqual(promise.part, ("pupil", "?p", "?g"))
        self.assertEqual(promise.partners, (("group", "?g"), ("club", "?p", "a", "b")))
        self.assertEqual(promise.among, {"?p": ("a", "b")})

    def test_the_defaults_of_a_promise(self):
        promise = Promise(SCHEMA, ("group", "g1"))
        self.assertEqual(promise.part, ("group", "g1"))
        self.assertEqual(promise.partners, ())
        self.assertEqual(promise.among, {})

    def test_equal_values_of_a_condition_count_once(self):
        given = {"?p": ["b", "a", "b", "10", "2"], "?g": ()}
        kept = {"?g": (), "?p": ("10", "2", "a", "b")}
        self.assertEqual(Question(SCHEMA, (), ("pupil", "?p", "?g"), among=given).among, kept)
        self.assertEqual(Promise(SCHEMA, ("pupil", "?p", "?g"), among=given).among, kept)
        self.assertEqual(given, {"?p": ["b", "a", "b", "10", "2"], "?g": ()})

    def test_arguments_changed_after_the_call(self):
        head, values = ["?p"], ["b", "a"]
        among = {"?p": values}
        question = Question(SCHEMA, head, ("pupil", "?p", "?g"), among=among)
        promise = Promise(SCHEMA, ("pupil", "?p", "?g"), among=among)
        head.append("?g")
        values.append("c")
        among["?g"] = ["z"]
        self.assertEqual(question.head, ("?p",))
        self.assertEqual(question.among, {"?p": ("a", "b")})
        self.assertEqual(promise.among, {"?p": ("a", "b")})

    def test_questions_without_conditions_share_none(self):
        first, second = Question(SCHEMA, (), ("group", "?g")), Question(SCHEMA, (), ("group", "?g"))
        self.assertIsNot(first.among, second.among)

    def test_methods_stand_in_the_class_itself(self):
        for owner, names in ((Question, ("__init__", "__le__", "__and__")), (Promise, ("__init__", "kept"))):
            for name in names:
                self.assertIn(name, vars(owner))


class Errors(unittest.TestCase):

    def error(self, kind, *parts, head=(), **more):
        """Return the error's one attribute, the same for a question and a promise."""
        with self.assertRaises(kind) as caught:
            Question(SCHEMA, head, *parts, **more)
        found = vars(caught.exception)
        if parts and not head:
            with self.assertRaises(kind) as caught:
                Promise(SCHEMA, *parts, **more)
            self.assertEqual(vars(caught.exception), found)
        [worth] = found.values()
        return worth

    def test_no_part(self):
        self.assertEqual(self.error(BadPart), ())
        self.assertEqual(self.error(BadPart, head=("?x",), among={"?x": ("a",)}), ())

    def test_an_unknown_table(self):
        self.assertEqual(self.error(UnknownTable, ("teacher", "?x")), "teacher")
        self.assertEqual(self.error(UnknownTable, ("group", "?x"), ("teacher", "?x"), ("room", "?x")), "teacher")

    def test_a_part_that_is_too_short_or_too_long(self):
        for part in (("pupil", "?x"), ("pupil",), ("pupil", "?x", "?y", "?z"), ("group",), ("group", "a", "b"), ()):
            with self.subTest(part=part):
                self.assertEqual(self.error(BadPart, part), part)
                self.assertEqual(self.error(BadPart, ("group", "?x"), part), part)

    def test_items_that_are_not_terms(self):
        for item in NOT_TERMS:
            for part in (("pupil", item, "?y"), ("pupil", "?y", item)):
                with self.subTest(part=part):
                    self.assertEqual(self.error(BadPart, part), part)
                    self.assertEqual(self.error(BadPart, ("group", "?x"), part), part)

    def test_items_that_are_terms(self):
        for item in TERMS:
            with self.subTest(item):
                self.assertEqual(Question(SCHEMA, (item,), ("group", item)).parts, (("group", item),))
                self.assertEqual(Promise(SCHEMA, ("group", item)).part, ("group", item))

    def test_an_unbound_variable_of_the_head(self):
        self.assertEqual(self.error(Unbound, ("group", "?x"), head=("?x", "?z", "?y")), "?z")
        self.assertEqual(self.error(Unbound, ("group", "x"), head=("?x",)), "?x")

    def test_values_in_the_head_need_no_part(self):
        self.assertEqual(Question(SCHEMA, ("x", "y", "?z"), ("group", "?z")).head, ("x", "y", "?z"))

    def test_an_unbound_variable_of_the_conditions(self):
        among = {"?z": ("a",), "?x": ("a",), "?y": ()}
        self.assertEqual(self.error(Unbound, ("group", "?x"), among=among), "?y")
        self.assertEqual(self.error(Unbound, ("group", "?x"), among={"?z": ()}), "?z")
        self.assertEqual(self.error(Unbound, ("group", "?x"), among={"?b": (), "?10": (), "?a": (), "?2": ()}), "?10")

    def test_each_part_may_bind(self):
        parts = (("group", "?x"), ("group", "?y"))
        self.assertEqual(Question(SCHEMA, ("?y",), *parts, among={"?y": ()}).among, {"?y": ()})
        self.assertEqual(Promise(SCHEMA, *parts, among={"?y": ()}).among, {"?y": ()})

    def test_part_by_part(self):
        bad, unknown = ("group", "?x", "?y"), ("teacher", "?x")
        self.assertEqual(self.error(BadPart, bad, unknown), bad)
        self.assertEqual(self.error(UnknownTable, unknown, bad), "teacher")
        self.assertEqual(self.error(BadPart, ("group", "A"), bad), ("group", "A"))

    def test_the_table_comes_before_the_items(self):
        self.assertEqual(self.error(UnknownTable, ("teacher", "A", "", "?")), "teacher")
        self.assertEqual(self.error(UnknownTable, ("teacher",)), "teacher")

    def test_parts_come_before_variables(self):
        among = {"?z": ("a",)}
        self.assertEqual(self.error(BadPart, ("group", "A"), head=("?z",), among=among), ("group", "A"))
        self.assertEqual(self.error(UnknownTable, ("teacher", "?x"), among=among), "teacher")

    def test_the_head_comes_before_the_conditions(self):
        self.assertEqual(self.error(Unbound, ("group", "?x"), head=("?z",), among={"?a": ()}), "?z")
        self.assertEqual(self.error(Unbound, ("group", "?x"), head=("?x",), among={"?a": ()}), "?a")


class Kept(unittest.TestCase):

    def test_every_row_of_a_part_of_variables(self):
        promise = Promise(SCHEMA, ("group", "?g"))
        world = [("group", "a"), ("group", "b"), ("pupil", "x", "a")]
        self.assertIs(promise.kept(world, [("group", "b"), ("group", "a")]), True)
        self.assertIs(promise.kept(world, world), True)
        self.assertIs(promise.kept(world, [("group", "a")]), False)
        self.assertIs(promise.kept(world, []), False)
        self.assertIs(promise.kept([], []), True)

    def test_partners_need_not_be_stored(self):
        promise = Promise(SCHEMA, ("pupil", "?p", "?g"), ("group", "?g"))
        world = [("pupil", "x", "a"), ("pupil", "y", "b"), ("group", "a")]
        self.assertIs(promise.kept(world, [("pupil", "x", "a")]), True)
        self.assertIs(promise.kept(world, [("pupil", "y", "b"), ("group", "a")]), False)

    def test_partners_must_be_in_the_world(self):
        promise = Promise(SCHEMA, ("pupil", "?p", "?g"), ("group", "?g"), ("club", "?p", "?g", "?x"))
        self.assertIs(promise.kept([("pupil", "x", "a"), ("group", "a")], []), True)
        self.assertIs(promise.kept([("pupil", "x", "a"), ("group", "a"), ("club", "x", "b", "z")], []), True)
        self.assertIs(promise.kept([("pupil", "x", "a"), ("group", "a"), ("club", "x", "a", "z")], []), False)
        self.assertIs(promise.kept([("pupil", "x", "a")], [("group", "a"), ("club", "x", "a", "z")]), True)

    def test_a_row_may_be_part_and_partner(self):
        promise = Promise(SCHEMA, ("pupil", "?p", "?g"), ("pupil", "?p", "?h"))
        self.assertIs(promise.kept([("pupil", "x", "a")], []), False)
        self.assertIs(promise.kept([("pupil", "x", "a")], [("pupil", "x", "a")]), True)

    def test_conditions(self):
        promise = Promise(SCHEMA, ("pupil", "?p", "?g"), among={"?g": ("a", "b")})
        world = [("pupil", "x", "a"), ("pupil", "y", "b"), ("pupil", "z", "c")]
        self.assertIs(promise.kept(world, world[:2]), True)
        self.assertIs(promise.kept(world, world[1:]), False)
        self.assertIs(promise.kept(world, [world[0], world[2]]), False)

    def test_a_condition_on_a_variable_of_a_partner(self):
        promise = Promise(SCHEMA, ("group", "?g"), ("pupil", "?p", "?g"), among={"?p": ("x",)})
        self.assertIs(promise.kept([("group", "a"), ("pupil", "y", "a")], []), True)
        self.assertIs(promise.kept([("group", "a"), ("pupil", "x", "a")], []), False)

    def test_a_condition_with_no_value(self):
        self.assertIs(Promise(SCHEMA, ("group", "?g"), among={"?g": ()}).kept([("group", "a")], []), True)

    def test_a_variable_that_occurs_twice(self):
        promise = Promise(SCHEMA, ("pupil", "?p", "?p"))
        self.assertIs(promise.kept([("pupil", "a", "b")], []), True)
        self.assertIs(promise.kept([("pupil", "a", "b"), ("pupil", "a", "a")], [("pupil", "a", "b")]), False)

    def test_values_in_the_part(self):
        promise = Promise(SCHEMA, ("pupil", "?p", "a"), ("group", "b"))
        world = [("pupil", "x", "a"), ("pupil", "x", "b"), ("group", "b")]
        self.assertIs(promise.kept(world, [("pupil", "x", "a")]), True)
        self.assertIs(promise.kept(world, [("pupil", "x", "b")]), False)
        self.assertIs(promise.kept(world[:2], []), True)
        self.assertIs(Promise(SCHEMA, ("group", "b")).kept(world, []), False)
        self.assertIs(Promise(SCHEMA, ("group", "a")).kept(world, []), True)

    def test_the_lists_handed_over_are_left_as_they_were(self):
        promise = Promise(SCHEMA, ("pupil", "?p", "?g"), ("group", "?g"))
        world, store = [("pupil", "x", "a"), ("group", "a"), ("group", "a")], [("group", "b"), ("pupil", "x", "a")]
        copies = list(world), list(store)
        promise.kept(world, store)
        self.assertEqual((world, store), copies)

    def test_all_small_worlds(self):
        tables = {"p": Table("p", 2), "q": Table("q", 1)}
        schema = Schema(*tables.values())
        promises = [
            Promise(schema, ("p", "?x", "?y")),
            Promise(schema, ("p", "?x", "?x"), ("q", "?z")),
            Promise(schema, ("p", "?x", "?y"), ("p", "?y", "?z"), ("q", "?z")),
            Promise(schema, ("p", "?x", "a"), ("p", "?y", "?x"), among={"?y": ("b", "c")}),
            Promise(schema, ("q", "?x"), ("p", "?x", "?y"), ("p", "?y", "?y"), among={"?x": ("a",)}),
        ]
        for promise in promises:
            for size in range(4):
                for world in combinations(reference.all_rows(tables, "ab"), size):
                    said = reference.said(promise, world)
                    self.assertIs(promise.kept(list(world), sorted(said)), True)
                    for row in said:
                        self.assertIs(promise.kept(list(world), [other for other in world if other != row]), False)


class Equal(unittest.TestCase):

    def test_equal_promises(self):
        promise = Promise(SCHEMA, ("group", "?g"), ("pupil", "?p", "?g"), among={"?p": ("b", "a"), "?g": ("c",)})
        equal = Promise(SCHEMA, ("group", "?g"), ("pupil", "?p", "?g"), among={"?g": ["c"], "?p": ["a", "b", "a"]})
        self.assertTrue(promise == equal)
        self.assertFalse(promise != equal)

    def test_different_promises(self):
        promise = Promise(SCHEMA, ("group", "?g"), ("pupil", "?p", "?g"), ("group", "?h"))
        others = [
            Promise(SCHEMA, ("group", "?h"), ("pupil", "?p", "?g"), ("group", "?h")),
            Promise(SCHEMA, ("group", "?g"), ("group", "?h"), ("pupil", "?p", "?g")),
            Promise(SCHEMA, ("group", "?g"), ("pupil", "?p", "?g")),
            Promise(SCHEMA, ("group", "?g"), ("pupil", "?p", "?g"), ("group", "?h"), among={"?h": ("a",)}),
            ("group", "?g"),
            None,
        ]
        for other in others:
            self.assertFalse(promise == other)
            self.assertTrue(promise != other)


class Options(unittest.TestCase):

    def setUp(self):
        self.parts = (("pupil", "?p", "?g"), ("group", "?g"))
        self.question = Question(SCHEMA, ("?p",), *self.parts, among={"?g": ("c", "a", "b")}, duplicates=True)

    def with_option(self, option):
        """Return what the question becomes, after a look at what it was."""
        made = self.question & option
        self.assertIsInstance(made, Question)
        self.assertEqual(made.head, ("?p",))
        self.assertIs(made.duplicates, True)
        self.assertEqual(self.question.parts, self.parts)
        self.assertEqual(self.question.among, {"?g": ("a", "b", "c")})
        self.assertEqual(self.question.head, ("?p",))
        self.assertIs(self.question.duplicates, True)
        return made

    def test_a_part_that_is_there(self):
        for part in self.parts:
            made = self.with_option(part)
            self.assertEqual(made.parts, self.parts)
            self.assertEqual(made.among, {"?g": ("a", "b", "c")})

    def test_a_new_part_is_the_last(self):
        for part in (("group", "?p"), ("group", "a"), ("pupil", "?g", "?p"), ("club", "?x", "?y", "?z")):
            made = self.with_option(part)
            self.assertEqual(made.parts, (*self.parts, part))
            self.assertEqual(made.among, {"?g": ("a", "b", "c")})

    def test_a_condition_on_a_variable_without_one(self):
        made = self.with_option(("?p", ["y", "x", "y"]))
        self.assertEqual(made.parts, self.parts)
        self.assertEqual(made.among, {"?g": ("a", "b", "c"), "?p": ("x", "y")})

    def test_a_condition_on_a_variable_that_has_one(self):
        self.assertEqual(self.with_option(("?g", ("d", "c", "b"))).among, {"?g": ("b", "c")})
        self.assertEqual(self.with_option(("?g", ("a", "b", "c", "d"))).among, {"?g": ("a", "b", "c")})
        self.assertEqual(self.with_option(("?g", ("d",))).among, {"?g": ()})
        self.assertEqual(self.with_option(("?g", ())).among, {"?g": ()})

    def test_the_values_of_the_option_are_copied(self):
        values = ["x"]
        made = self.with_option(("?p", values))
        values.append("y")
        self.assertEqual(made.among["?p"], ("x",))

    def test_options_in_a_row(self):
        made = self.question & ("group", "?p") & ("?p", ("a", "b")) & ("group", "?p") & ("?p", ("b", "c"))
        self.assertEqual(made.parts, (*self.parts, ("group", "?p")))
        self.assertEqual(made.among, {"?g": ("a", "b", "c"), "?p": ("b",)})

    def test_a_question_without_duplicates_stays_one(self):
        self.assertIs((Question(SCHEMA, (), ("group", "?g")) & ("group", "a")).duplicates, False)

    def test_wrong_options_raise_as_a_question_does(self):
        for option, kind in (
            (("teacher", "?x"), UnknownTable), (("group", "A"), BadPart), (("group", "a", "b"), BadPart),
            ((), BadPart), (("?x", ("a",)), Unbound),
        ):
            with self.subTest(option=option), self.assertRaises(kind):
                self.question & option
            self.assertEqual(self.question.parts, self.parts)
            self.assertEqual(self.question.among, {"?g": ("a", "b", "c")})
