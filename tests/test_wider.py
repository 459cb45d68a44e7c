"""Point 15, question <= other: whether the other question gives every answer."""

import random
import unittest
from itertools import product

from surelywhole.questions import Question
from surelywhole.schemas import Schema, Table
from tests import reference


class Case(unittest.TestCase):

    def setUp(self):
        self.schema = Schema(Table("p", 2), Table("q", 1), Table("r", 3))

    def ask(self, head, *parts, among=None, duplicates=False):
        """A question; its conditions may be written as strings of values of one letter."""
        among = {variable: tuple(values) for variable, values in (among or {}).items()}
        return Question(self.schema, head, *parts, among=among, duplicates=duplicates)

    def assert_within(self, question, other):
        self.assertIs(question <= other, True)

    def assert_not_within(self, question, other):
        self.assertIs(question <= other, False)


class WithoutPromisesOfTheSchema(Case):

    def test_itself_and_itself_with_other_names(self):
        question = self.ask(("?x",), ("p", "?x", "?y"), ("q", "?y"))
        self.assert_within(question, question)
        self.assert_within(question, self.ask(("?a",), ("q", "?b"), ("p", "?a", "?b")))
        self.assert_within(question, self.ask(("?y",), ("q", "?x"), ("p", "?y", "?x")))

    def test_a_part_more_is_narrower(self):
        wide = self.ask(("?x",), ("p", "?x", "?y"))
        narrow = self.ask(("?x",), ("p", "?x", "?y"), ("q", "?y"))
        self.assert_within(narrow, wide)
        self.assert_not_within(wide, narrow)

    def test_parts_of_the_other_may_fall_together(self):
        question = self.ask(("?x",), ("p", "?x", "?x"))
        other = self.ask(("?x",), ("p", "?x", "?y"), ("p", "?y", "?z"))
        self.assert_within(question, other)
        self.assert_not_within(other, question)

    def test_values_in_parts(self):
        narrow, wide = self.ask(("?x",), ("p", "?x", "a")), self.ask(("?x",), ("p", "?x", "?y"))
        self.assert_within(narrow, wide)
        self.assert_not_within(wide, narrow)
        self.assert_not_within(narrow, self.ask(("?x",), ("p", "?x", "b")))

    def test_repeated_variables_in_parts(self):
        narrow, wide = self.ask((), ("r", "?x", "?y", "?x")), self.ask((), ("r", "?x", "?y", "?z"))
        self.assert_within(narrow, wide)
        self.assert_not_within(wide, narrow)
        self.assert_not_within(narrow, self.ask((), ("r", "?x", "?y", "?y")))

    def test_values_and_repeated_variables_in_heads(self):
        part = ("p", "?x", "?y")
        self.assert_within(self.ask(("a",), part), self.ask(("a",), part))
        self.assert_not_within(self.ask(("a",), part), self.ask(("b",), part))
        self.assert_not_within(self.ask(("a",), part), self.ask(("?x",), part))
        self.assert_not_within(self.ask(("?x",), part), self.ask(("a",), part))
        self.assert_within(self.ask(("a",), ("p", "a", "?y")), self.ask(("?x",), part))
        self.assert_within(self.ask(("?x",), part, among={"?x": ("a",)}), self.ask(("a",), part))
        self.assert_within(self.ask(("?x", "?x"), ("p", "?x", "?x")), self.ask(("?x", "?y"), part))
        self.assert_not_within(self.ask(("?x", "?y"), part), self.ask(("?x", "?x"), part))
        self.assert_not_within(self.ask(("?x", "?y"), part), self.ask(("?y", "?x"), part))
        self.assert_not_within(self.ask(("?x", "?x"), part), self.ask(("?x", "?y"), part))

    def test_heads_of_different_lengths(self):
        part = ("p", "?x", "?y")
        for head, other in product(((), ("?x",), ("?x", "?y"), ("?x", "?y", "?y")), repeat=2):
            self.assertIs(self.ask(head, part) <= self.ask(other, part), head == other)

    def test_the_flags_make_no_difference(self):
        wide, narrow = ("p", "?x", "?y"), ("p", "?x", "?x")
        for first, second in product((False, True), repeat=2):
            self.assert_within(
                self.ask(("?x",), narrow, duplicates=first), self.ask(("?x",), wide, wide, duplicates=second)
            )
            self.assert_not_within(
                self.ask(("?x",), wide, wide, duplicates=first), self.ask(("?x",), narrow, duplicates=second)
            )

    def test_how_often_does_not_matter(self):
        once = self.ask(("?x",), ("q", "?x"), duplicates=True)
        often = self.ask(("?x",), ("q", "?x"), ("q", "?x"), duplicates=True)
        self.assert_within(once, often)
        self.assert_within(often, once)

    def test_conditions(self):
        part = ("p", "?x", "?y")
        two, three = self.ask(("?x",), part, among={"?y": "ab"}), self.ask(("?x",), part, among={"?y": "abc"})
        self.assert_within(two, three)
        self.assert_not_within(three, two)
        self.assert_within(two, self.ask(("?x",), part))
        self.assert_not_within(self.ask(("?x",), part), two)
        self.assert_within(self.ask(("?x",), ("p", "?x", "a")), two)
        self.assert_not_within(self.ask(("?x",), ("p", "?x", "c")), two)
        self.assert_not_within(two, self.ask(("?x",), part, among={"?y": "cd"}))

    def test_conditions_on_two_variables_that_are_one_in_the_other(self):
        question = self.ask((), ("p", "?x", "?y"), among={"?x": "a", "?y": "a"})
        self.assert_within(question, self.ask((), ("p", "?x", "?x")))
        question = self.ask((), ("p", "?x", "?y"), among={"?x": "ab", "?y": "a"})
        self.assert_not_within(question, self.ask((), ("p", "?x", "?x")))

    def test_a_condition_with_no_value(self):
        empty = self.ask(("?x",), ("p", "?x", "?y"), among={"?y": ()})
        full = self.ask(("?x",), ("p", "?x", "?y"))
        self.assert_within(empty, full)
        self.assert_not_within(full, empty)
        self.assert_within(empty, empty)
        self.assert_within(empty, self.ask((), ("q", "a")))

    def test_each_value_may_have_its_own_match(self):
        question = self.ask((), ("p", "a", "?x"), ("p", "?x", "b"), among={"?x": "ab"})
        self.assert_within(question, self.ask((), ("p", "?x", "?y"), among={"?x": "a", "?y": "b"}))
        question = self.ask((), ("p", "a", "?x"), ("p", "?x", "b"), among={"?x": "abc"})
        self.assert_not_within(question, self.ask((), ("p", "?x", "?y"), among={"?x": "a", "?y": "b"}))

    def test_only_questions_can_be_compared(self):
        with self.assertRaises(TypeError):
            self.ask((), ("q", "a")) <= ("q", "a")

    def test_neither_question_changes(self):
        question = self.ask(("?x",), ("p", "?x", "?y"), among={"?y": "ab"})
        other = self.ask(("?x",), ("p", "?x", "?y"), among={"?x": "ab"})
        before = dict(vars(question)), dict(vars(other))
        question <= other
        other <= question
        self.assertEqual((vars(question), vars(other)), before)
        self.assertEqual(question.among, {"?y": ("a", "b")})


class WithKeys(Case):

    def setUp(self):
        self.schema = Schema(Table("p", 2, key=(0,)), Table("q", 1, key=(0,)), Table("r", 3, key=(0, 2)))

    def test_parts_that_agree_are_one(self):
        question = self.ask(("?x",), ("p", "?x", "?y"), ("p", "?x", "?z"), ("q", "?z"))
        self.assert_within(question, self.ask(("?x",), ("p", "?x", "?y"), ("q", "?y")))
        self.assert_within(self.ask(("?y", "?z"), *question.parts), self.ask(("?u", "?u"), ("q", "?u")))

    def test_parts_that_do_not_agree_are_two(self):
        question = self.ask(("?x",), ("p", "?y", "?x"), ("p", "?z", "?x"))
        self.assert_not_within(question, self.ask(("?x",), ("p", "?y", "?x"), ("p", "?y", "?y")))
        question = self.ask((), ("r", "?x", "?y", "?z"), ("r", "?x", "b", "?v"))
        self.assert_not_within(question, self.ask((), ("r", "?x", "b", "?z"), ("r", "?x", "?z", "b")))

    def test_every_column_of_the_key_counts(self):
        one = self.ask(("?y",), ("r", "?x", "?y", "?z"), ("r", "?x", "a", "?z"))
        two = self.ask(("?y",), ("r", "?x", "?y", "?z"), ("r", "?x", "a", "?v"))
        self.assert_within(one, self.ask(("a",), ("r", "?x", "a", "?z")))
        self.assert_not_within(two, self.ask(("a",), ("r", "?x", "a", "?z")))

    def test_one_step_leads_to_the_next(self):
        question = self.ask(
            ("?c", "?d"), ("p", "?x", "?a"), ("p", "?x", "?b"), ("p", "?a", "?c"), ("p", "?b", "?d")
        )
        self.assert_within(question, self.ask(("?c", "?c"), ("p", "?a", "?c")))

    def test_different_values_have_no_world(self):
        question = self.ask(("?x",), ("p", "?x", "a"), ("p", "?x", "b"))
        self.assert_within(question, self.ask((), ("q", "z")))
        question = self.ask(("?x",), ("p", "?x", "?y"), ("p", "?x", "b"), among={"?y": "ac"})
        self.assert_within(question, self.ask((), ("q", "z")))

    def test_conditions_hold_of_both_variables_that_become_one(self):
        parts = (("p", "?x", "?y"), ("p", "?x", "?z"))
        for among in ({"?y": "ab", "?z": "bc"}, {"?y": "bc", "?z": "ab"}):
            question = self.ask((), *parts, among=among)
            self.assert_within(question, self.ask((), ("p", "?x", "b")))
            self.assert_not_within(question, self.ask((), ("p", "?x", "a")))
        for among in ({"?y": "ab", "?z": "cd"}, {"?y": (), "?z": "c"}, {"?z": ()}):
            self.assert_within(self.ask((), *parts, among=among), self.ask((), ("q", "z")))

    def test_a_table_of_key_columns_only(self):
        self.assert_not_within(self.ask((), ("q", "?x"), ("q", "a")), self.ask((), ("p", "?x", "?y")))


class WithLists(Case):

    def setUp(self):
        self.schema = Schema(Table("p", 2, lists={1: ("a", "b")}), Table("q", 1), Table("r", 3, lists={0: ("b", "c")}))

    def test_a_list_is_a_condition_on_its_column(self):
        question = self.ask(("?x",), ("p", "?x", "?y"))
        self.assert_within(question, self.ask(("?x",), ("p", "?x", "?y"), among={"?y": "abc"}))
        self.assert_within(question, self.ask(("?x",), ("p", "?x", "?y"), among={"?y": "ab"}))
        self.assert_not_within(question, self.ask(("?x",), ("p", "?x", "?y"), among={"?y": "ac"}))
        self.assert_not_within(question, self.ask(("?x",), ("p", "?x", "?y"), among={"?x": "ab"}))

    def test_each_value_of_the_list_may_have_its_own_match(self):
        question = self.ask((), ("p", "?x", "a"), ("p", "?y", "b"), ("p", "?z", "?u"))
        self.assert_within(question, self.ask((), ("p", "?x", "a"), ("p", "?y", "b")))
        chain = self.ask((), ("p", "a", "?x"), ("p", "?x", "b"))
        self.assert_within(chain, self.ask((), ("p", "a", "b")))

    def test_a_value_off_the_list_has_no_world(self):
        self.assert_within(self.ask(("?x",), ("p", "?x", "c")), self.ask((), ("q", "z")))
        self.assert_not_within(self.ask(("?x",), ("p", "c", "?x")), self.ask((), ("q", "z")))

    def test_two_lists_on_one_variable(self):
        question = self.ask(("?x",), ("p", "?u", "?x"), ("r", "?x", "?v", "?w"))
        self.assert_within(question, self.ask(("b",), ("p", "?u", "b")))
        self.assert_within(self.ask((), *question.parts, among={"?x": "ac"}), self.ask(("z",), ("q", "z")))

    def test_a_list_and_a_condition_on_one_variable(self):
        question = self.ask(("?x",), ("p", "?u", "?x"), among={"?x": "bc"})
        self.assert_within(question, self.ask(("b",), ("p", "?u", "b")))
        self.assert_within(self.ask(("?x",), ("p", "?u", "?x"), among={"?x": "cd"}), self.ask((), ("q", "z")))


class WithReferences(Case):

    def setUp(self):
        self.schema = Schema(
            Table("p", 2, refers=((1, "q", 0),)),
            Table("q", 2, key=(0,), lists={1: ("a", "b")}, refers=((1, "r", 0),)),
            Table("r", 1, lists={0: ("b", "c")}),
        )

    def test_a_partner_need_not_be_asked_for(self):
        question = self.ask(("?x",), ("p", "?x", "?y"))
        self.assert_within(question, self.ask(("?x",), ("p", "?x", "?y"), ("q", "?y", "?z")))
        self.assert_not_within(question, self.ask(("?x",), ("p", "?x", "?y"), ("q", "?x", "?z")))
        self.assert_not_within(self.ask(("?y",), ("q", "?y", "?z")), self.ask(("?y",), ("p", "?x", "?y")))

    def test_partners_of_partners(self):
        question = self.ask(("?x",), ("p", "?x", "?y"))
        self.assert_within(question, self.ask(("?x",), ("p", "?x", "?y"), ("q", "?y", "?z"), ("r", "?z")))

    def test_lists_of_partners(self):
        self.assert_within(self.ask((), ("p", "?x", "?y")), self.ask((), ("q", "?y", "b"), ("r", "b")))
        self.assert_not_within(self.ask((), ("p", "?x", "?y")), self.ask((), ("r", "c")))

    def test_a_partner_agrees_with_a_part(self):
        question = self.ask(("?z",), ("p", "?x", "?y"), ("q", "?y", "?z"))
        self.assert_within(question, self.ask(("b",), ("q", "?y", "b")))

    def test_a_reference_to_a_value_that_no_row_can_have(self):
        self.schema = Schema(Table("p", 1, refers=((0, "q", 0),)), Table("q", 1, lists={0: ("a", "b")}))
        self.assert_within(self.ask((), ("p", "c")), self.ask(("z",), ("q", "z")))
        self.assert_within(self.ask(("?x",), ("p", "?x")), self.ask(("?x",), ("p", "?x"), among={"?x": "ab"}))
        self.assert_not_within(self.ask(("?x",), ("p", "?x")), self.ask(("a",), ("p", "a")))

    def test_two_references_of_one_table(self):
        self.schema = Schema(Table("p", 2, refers=((0, "q", 0), (1, "q", 1))), Table("q", 2))
        question = self.ask((), ("p", "?x", "?y"))
        self.assert_within(question, self.ask((), ("p", "?x", "?y"), ("q", "?x", "?u"), ("q", "?v", "?y")))
        self.assert_not_within(question, self.ask((), ("p", "?x", "?y"), ("q", "?x", "?y")))

    def test_new_variables_are_not_the_questions(self):
        self.schema = Schema(Table("p", 2, refers=((1, "q", 0),)), Table("q", 3))
        names = [f"?n{at}" for at in range(4)]
        for first, second in product(names, repeat=2):
            question = self.ask((), ("p", first, second))
            self.assert_not_within(question, self.ask((), ("p", "?x", "?y"), ("q", "?y", "?x", "?z")))
            self.assert_not_within(question, self.ask((), ("p", "?x", "?y"), ("q", "?y", "?z", "?x")))
            self.assert_not_within(question, self.ask((), ("q", "?y", "?z", "?z")))

    def test_a_new_variable_has_no_condition_of_the_question(self):
        self.schema = Schema(Table("p", 2, refers=((1, "q", 0),)), Table("q", 2))
        question = self.ask((), ("p", "?n0", "?n1"), among={"?n0": "a", "?n1": "a"})
        self.assert_within(question, self.ask((), ("q", "a", "?x")))
        self.assert_not_within(question, self.ask((), ("q", "a", "a")))


class AgainstAllWorlds(unittest.TestCase):

    def questions(self, schema, tables, terms, conditions, most):
        """All questions of at most so many parts with at most two variables, for two heads."""
        rows = [part for part in reference.all_rows(tables, terms) if "?x" in part or "?y" not in part]
        for size in range(1, most + 1):
            for parts in product(rows, repeat=size):
                if list(parts) == sorted(parts):
                    bound = reference.variables_of(parts)
                    for among in conditions if bound == ["?x", "?y"] else [None]:
                        for head in ((), ("?x",)) if bound else ((),):
                            yield Question(schema, head, *parts, among=among)

    def compare(self, tables, values, terms, conditions, most, rows):
        """Compare every two questions in all worlds of at most so many rows."""
        tables = {table.name: table for table in tables}
        schema = Schema(*tables.values())
        questions = list(self.questions(schema, tables, terms, conditions, most))
        given = [set() for _ in questions]
        for number, world in enumerate(reference.all_worlds(tables, values, rows)):
            for found, question in zip(given, questions):
                found.update((number, answer) for answer in reference.answers(question, world))
        within = 0
        for question, found in zip(questions, given):
            for other, others in zip(questions, given):
                within += found <= others
                self.assertIs(question <= other, found <= others, (vars(question), vars(other)))
        self.assertGreater(within, len(questions))

    def test_a_key_and_a_reference(self):
        tables = (Table("p", 2, key=(0,), refers=((1, "q", 0),)), Table("q", 1))
        self.compare(tables, "abc", ("?x", "?y", "a"), [None], 2, 4)

    def test_a_list_and_conditions(self):
        tables = (Table("p", 2, lists={1: ("a", "b")}),)
        conditions = [None, {"?x": ("a",)}, {"?y": ("a", "b")}, {"?x": ("a", "b"), "?y": ()}]
        self.compare(tables, "abcd", ("?x", "?y", "a"), conditions, 2, 2)

    def test_a_reference_to_a_list(self):
        tables = (Table("q", 1, lists={0: ("a", "b")}), Table("p", 2, refers=((0, "q", 0),)))
        self.compare(tables, "abcd", ("?x", "?y", "a"), [None, {"?y": ("b", "c")}], 1, 2)

    def test_a_key_of_two_columns(self):
        tables = (Table("p", 2, key=(0, 1)), Table("q", 1, key=(0,)))
        self.compare(tables, "abc", ("?x", "?y", "a"), [None], 2, 2)

    def test_a_chain_of_references(self):
        tables = (
            Table("p", 1, refers=((0, "q", 1),)), Table("q", 2, key=(1,), refers=((0, "r", 0),)),
            Table("r", 1, lists={0: ("a",)}),
        )
        self.compare(tables, "abc", ("?x", "?y", "a"), [None], 1, 3)


class AgainstLeastWorlds(unittest.TestCase):
    """Random schemas and questions, with as many values as they can tell apart."""

    def schema_of(self, pick):
        names = ["p", "q", "r"][:pick.randint(1, 3)]
        widths = {name: pick.choice((1, 2, 2, 3)) for name in names}
        lists, refers = {name: {} for name in names}, {name: [] for name in names}
        for _ in range(pick.randint(0, 2)):
            name = pick.choice(names)
            lists[name][pick.randrange(widths[name])] = pick.sample("abc", pick.randint(1, 2))
        for _ in range(pick.randint(0, 2) if len(names) > 1 else 0):
            name, target = sorted(pick.sample(names, 2))
            refers[name].append((pick.randrange(widths[name]), target, pick.randrange(widths[target])))
        tables = {}
        for name in names:
            key = pick.sample(range(widths[name]), pick.randint(0, max(0, widths[name] - 1)))
            tables[name] = Table(name, widths[name], key=key, lists=lists[name], refers=tuple(refers[name]))
        return tables

    def question_of(self, pick, schema, tables, size, head_size):
        parts = []
        for _ in range(size):
            table = tables[pick.choice(sorted(tables))]
            terms = [pick.choice(("?x", "?y", "?z", "?x", "?y", "a", "b")) for _ in range(table.width)]
            parts.append((table.name, *terms))
        bound = reference.variables_of(parts)
        head = [pick.choice((*bound, *bound, "a")) for _ in range(head_size)]
        among = {name: pick.sample("abc", pick.randint(1, 2)) for name in bound if pick.random() < 0.15}
        return Question(schema, head, *parts, among=among)

    def wider_of(self, pick, schema, question):
        """The question with a part less, with new names, or with other conditions."""
        parts = list(question.parts)
        if len(parts) > 1 and pick.random() < 0.5:
            del parts[pick.randrange(len(parts))]
        parts = [(part[0], *[term if pick.random() < 0.9 else "?w" for term in part[1:]]) for part in parts]
        pick.shuffle(parts)
        bound = reference.variables_of(parts)
        head = [term if term in bound or term[0] != "?" else "a" for term in question.head]
        among = {name: values for name, values in question.among.items() if name in bound and pick.random() < 0.6}
        return Question(schema, head, *parts, among=among)

    def test_random_questions(self):
        pick = random.Random(15)
        told = {True: 0, False: 0}
        for _ in range(500):
            tables = self.schema_of(pick)
            schema = Schema(*tables.values())
            head_size = pick.randint(0, 2)
            question = self.question_of(pick, schema, tables, pick.randint(1, 2), head_size)
            others = [
                self.wider_of(pick, schema, question),
                self.question_of(pick, schema, tables, pick.randint(1, 3), head_size),
            ]
            for other in others:
                want = reference.is_within(tables, question, other)
                told[want] += 1
                shown = [vars(table) for table in tables.values()]
                self.assertIs(question <= other, want, (shown, vars(question), vars(other)))
        self.assertGreater(min(told.values()), 200)
