"""Points 5, 7, 9, 10 and 11: decide, its derivations and its pairs."""

import unittest

from surelywhole.books import Book
from surelywhole.deciding import Derivation, Pair, decide, pair_lines
from surelywhole.questions import Promise, Question
from surelywhole.schemas import Schema, Table
from tests import reference
from tests.cases import Case
from tests.reader import Reader, check_pair


class Decided(unittest.TestCase):
    """Tests that ask questions about one schema."""

    schema = Schema(
        Table("p", 2, key=(0,), refers=((1, "q", 0),)), Table("q", 2, lists={1: ("a", "b")}), Table("s", 2),
    )

    def ask(self, head, *parts, among=None, duplicates=False):
        return Question(self.schema, head, *parts, among=among, duplicates=duplicates)

    def book(self, *promises):
        """A book; a promise is a part, a tuple of parts, or such a tuple and a dict of conditions."""
        made = []
        for given in promises:
            parts = (given,) if isinstance(given[0], str) else given
            among = parts[-1] if isinstance(parts[-1], dict) else {}
            made.append(Promise(self.schema, *[part for part in parts if part != among], among=among))
        return Book(self.schema, *made)

    def assert_whole(self, book, question, kinds):
        """Hold the derivation against point 9, and look whether it has nodes of these kinds."""
        result = decide(book, question)
        self.assertIsInstance(result, Derivation)
        self.assertIs(result.whole, True)
        reader = Reader(book, question)
        reader.read(result.tree)
        self.assertEqual(sorted(reader.kinds), sorted(kinds.split()))
        return result.tree

    def assert_not_whole(self, book, question, many):
        """Hold the pair against point 11, and look whether its world has so many rows."""
        pair = decide(book, question)
        self.assertIsInstance(pair, Pair)
        check_pair(book, question, pair)
        self.assertEqual(len(pair.world), many)
        self.assertEqual(reference.smallest_difference(self.schema.named, list(book), question), many)
        return pair


class Whole(Decided):

    def test_one_part(self):
        book, part = self.book(("s", "?u", "?v")), ("s", "?x", "?y")
        for duplicates in (False, True):
            for head in ((), ("?x",), ("?y", "a", "?x", "?x")):
                tree = self.assert_whole(book, self.ask(head, part, duplicates=duplicates), "whole")
                self.assertEqual(tree, ("whole", ((0, (0,)),), (0,)))

    def test_the_index_of_the_promise_and_its_partners(self):
        parts = ("s", "?x", "?y"), ("q", "?y", "a"), ("s", "?y", "?x")
        first = ("s", "?u", "?v"), ("q", "?v", "a"), ("s", "?v", "?u")
        last = ("s", "?v", "?u"), ("s", "?u", "?v"), ("q", "?v", "a")
        for duplicates in (False, True):
            question = self.ask(("?y",), *parts, duplicates=duplicates)
            tree = self.assert_whole(self.book(("q", "?x", "?y"), first, last), question, "whole")
            self.assertEqual((sorted(tree[1]), tree[2]), ([(0, (1,)), (1, (0, 1, 2)), (2, (2, 0, 1))], (0, 1, 2)))
            self.assert_not_whole(self.book(("q", "?x", "?y"), first), question, 3)
            self.assert_not_whole(self.book(("q", "?x", "?y"), last), question, 3)

    def test_without_duplicates_another_row_may_give_the_answer(self):
        book = self.book((("s", "?x", "?y"), ("s", "?y", "?z")))
        parts = ("s", "?x", "?y"), ("s", "?y", "?z")
        self.assert_whole(self.book(("s", "?x", "?y")), self.ask(("?x",), *parts), "whole")
        question = self.ask(("?x",), ("s", "?x", "?y"), ("s", "?x", "?z"), ("s", "?z", "?w"))
        self.assert_not_whole(book, question, 2)
        question = self.ask(("?x",), ("s", "?x", "?y"), ("s", "?y", "?z"), ("s", "?x", "?w"))
        self.assertEqual(decide(self.book(("s", "?x", "?y")), question).whole, True)
        only = self.book((("s", "?x", "?y"), ("q", "?y", "?z")))
        question = self.ask(("?x",), ("s", "?x", "?y"), ("s", "?x", "?z"), ("q", "?z", "?w"))
        self.assertEqual(decide(only, question).whole, False)
        question = self.ask(("?x",), ("s", "?x", "?y"), ("s", "?x", "?z"))
        self.assert_not_whole(only, question, 1)

    def test_with_duplicates_every_match_must_be_stored(self):
        only = self.book((("s", "?x", "?y"), ("q", "?y", "?z")), ("q", "?x", "?y"))
        parts = ("s", "?x", "?y"), ("s", "?x", "?z"), ("q", "?z", "a")
        tree = self.assert_whole(only, self.ask(("?x",), *parts), "whole")
        self.assertEqual(tree[2], (1, 1, 2))
        pair = self.assert_not_whole(only, self.ask(("?x",), *parts, duplicates=True), 3)
        self.assertEqual(pair.row[0], "s")
        self.assertNotIn(("q", pair.row[2], "a"), pair.world)
        every = self.book(("s", "?x", "?y"), ("q", "?x", "?y"))
        tree = self.assert_whole(every, self.ask(("?x",), *parts, duplicates=True), "whole")
        self.assertEqual(tree[2], (0, 1, 2))

    def test_choose_by_a_list(self):
        part = ("q", "?x", "?y")
        book = self.book(("q", "?x", "b"), ("q", "?x", "a"))
        for duplicates in (False, True):
            tree = self.assert_whole(book, self.ask(("?x", "?y"), part, duplicates=duplicates), "choose whole")
            self.assertEqual(tree[:2], ("choose", "?y"))
            self.assertEqual([value for value, _ in tree[2]], ["a", "b"])
        self.assert_not_whole(self.book(("q", "?x", "b")), self.ask((), part), 1)

    def test_choose_by_a_condition(self):
        part, head = ("s", "?x", "?y"), ("?x",)
        book = self.book(("s", "?x", "c"), (part, {"?y": ("d", "e")}))
        for among in ({"?y": ("d", "c")}, {"?y": ("e", "d", "c"), "?x": ("a",)}):
            self.assert_whole(book, self.ask(head, part, among=among), "choose whole")
        pair = self.assert_not_whole(book, self.ask(head, part, among={"?y": ("c", "f")}), 1)
        self.assertEqual(pair.row[2], "f")
        self.assert_not_whole(book, self.ask(head, part), 1)

    def test_choose_by_a_condition_without_a_value(self):
        question = self.ask(("?x",), ("s", "?x", "?y"), among={"?y": ()})
        self.assertEqual(self.assert_whole(self.book(), question, "choose"), ("choose", "?y", ()))

    def test_a_condition_on_a_variable_that_becomes_another(self):
        parts = ("p", "?x", "?y"), ("p", "?x", "?z")
        for name in ("?y", "?z"):
            question = self.ask(("?x",), *parts, among={name: ("a", "b")})
            book = self.book((("p", "?x", "?y"), {"?y": ("a", "b")}))
            self.assert_whole(book, question, "choose same partner whole")
            self.assert_not_whole(self.book(("p", "?x", "a")), question, 2)

    def test_a_condition_and_a_list_of_one_variable(self):
        question = self.ask((), ("q", "?x", "?y"), among={"?y": ("c", "b")})
        self.assert_whole(self.book(("q", "?x", "b")), question, "choose none whole")
        self.assert_whole(self.book(), self.ask((), ("q", "?x", "?y"), among={"?y": ("c", "d")}), "choose none")

    def test_same(self):
        book = self.book((("p", "?x", "?y"), ("s", "?y", "?x")), ("s", "?x", "?y"))
        parts = ("p", "?x", "?z"), ("p", "?x", "?y"), ("s", "?z", "?x")
        for duplicates in (False, True):
            self.assert_whole(book, self.ask(("?y",), *parts, duplicates=duplicates), "same partner whole")
        self.assert_not_whole(book, self.ask(("?y",), *parts[1:]), 3)
        self.assert_whole(self.book(("p", "?x", "a")), self.ask((), ("p", "?x", "?y"), ("p", "?x", "a")), "same partner whole")

    def test_partner(self):
        book = self.book((("p", "?x", "?y"), ("q", "?y", "a")), (("p", "?x", "?y"), ("q", "?y", "b")))
        for duplicates in (False, True):
            question = self.ask(("?x",), ("p", "?x", "?y"), duplicates=duplicates)
            self.assert_whole(book, question, "partner choose whole")
        pair = self.assert_not_whole(self.book((("p", "?x", "?y"), ("q", "?y", "a"))), question, 2)
        self.assertEqual(pair.row[0], "p")
        self.assertIn(("q", pair.row[2], "b"), pair.world)
        self.assert_whole(self.book((("p", "?x", "?y"), ("q", "?y", "?z"))), question, "partner whole")

    def test_partners_keep_off_the_variables_of_the_question(self):
        names = [f"?n{at}" for at in range(3)]
        book = self.book((("p", "?x", "?y"), ("q", "?y", "?z")))
        question = self.ask(names[:1], ("p", names[0], names[1]), ("s", names[2], names[2]), among={names[2]: ("a",)})
        self.assertEqual(decide(book, question).whole, False)
        more = self.book((("p", "?x", "?y"), ("q", "?y", "?z")), ("s", "?x", "?y"))
        self.assert_whole(more, question, "choose partner whole")

    def test_none_by_a_list_and_by_a_key(self):
        for duplicates in (False, True):
            off = self.ask(("?x",), ("q", "?x", "c"), duplicates=duplicates)
            self.assertEqual(self.assert_whole(self.book(), off, "none"), ("none",))
            clash = self.ask(("?x",), ("p", "?x", "a"), ("p", "?x", "b"), duplicates=duplicates)
            self.assertEqual(self.assert_whole(self.book(), clash, "none"), ("none",))
        hidden = self.ask((), ("p", "?x", "?y"), ("p", "?x", "a"), ("p", "?x", "b"))
        self.assert_whole(self.book(), hidden, "none")

    def test_none_only_after_other_steps(self):
        schema = Schema(
            Table("p", 2, key=(0,), refers=((1, "q", 0), (0, "r", 0))), Table("q", 2, key=(0,), lists={1: ("a",)}),
            Table("r", 1, lists={0: ("d",)}),
        )
        question = Question(schema, (), ("p", "?x", "?y"), ("q", "?y", "?z"), ("p", "c", "?y"))
        reader = Reader(Book(schema), question)
        reader.read(decide(Book(schema), question).tree)
        self.assertEqual(sorted(reader.kinds), ["none", "partner"])

    def test_references_in_a_row(self):
        schema = Schema(
            Table("p", 1, refers=((0, "q", 1),)), Table("q", 2, refers=((0, "r", 0),)), Table("r", 2, lists={1: ("a", "b")}),
        )
        promises = [
            Promise(schema, ("p", "?x"), ("q", "?y", "?x"), ("r", "?y", value)) for value in ("a", "b")
        ]
        question = Question(schema, ("?x",), ("p", "?x"))
        reader = Reader(Book(schema, *promises), question)
        reader.read(decide(Book(schema, *promises), question).tree)
        self.assertEqual(reader.kinds, {"partner": 2, "choose": 1, "whole": 2})
        pair = decide(Book(schema, promises[0]), question)
        check_pair(Book(schema, promises[0]), question, pair)
        self.assertEqual(len(pair.world), 3)

    def test_values_and_repeated_variables(self):
        book = self.book(("s", "?x", "?x"), ("s", "a", "?x"))
        for part in (("s", "?y", "?y"), ("s", "a", "?y"), ("s", "b", "b"), ("s", "a", "b")):
            self.assert_whole(book, self.ask((), part), "whole")
        for part in (("s", "?x", "?y"), ("s", "?y", "a"), ("s", "b", "a"), ("s", "b", "?y")):
            self.assert_not_whole(book, self.ask((), part), 1)

    def test_a_condition_of_a_promise_is_no_match_of_a_variable(self):
        book = self.book((("s", "?x", "?y"), {"?x": ("a", "b", "c")}))
        self.assert_not_whole(book, self.ask((), ("s", "?x", "?y")), 1)
        self.assert_whole(book, self.ask((), ("s", "b", "?y")), "whole")
        self.assert_not_whole(book, self.ask((), ("s", "d", "?y")), 1)


class NotWhole(Decided):

    def test_no_promise(self):
        pair = self.assert_not_whole(self.book(), self.ask(("?y", "a"), ("s", "?x", "?y")), 1)
        self.assertEqual(pair.store, [])
        self.assertEqual(pair.world, [pair.row])
        self.assertEqual(pair.answer, (pair.row[2], "a"))

    def test_the_rows_to_which_references_lead(self):
        pair = self.assert_not_whole(self.book(("q", "?x", "?y")), self.ask(("?x",), ("p", "?x", "?y")), 2)
        self.assertEqual([row[0] for row in pair.world], ["p", "q"])
        self.assertEqual([row[0] for row in pair.store], ["q"])
        self.assertEqual(pair.row, pair.world[0])

    def test_parts_fall_together(self):
        question = self.ask((), ("s", "?x", "?y"), ("s", "?y", "?z"), ("s", "?z", "?x"))
        pair = self.assert_not_whole(self.book(), question, 1)
        self.assertEqual(pair.row[1], pair.row[2])
        pair = self.assert_not_whole(self.book(("s", "?x", "?x")), question, 3)
        self.assertNotEqual(pair.row[1], pair.row[2])

    def test_parts_that_cannot_fall_together(self):
        question = self.ask((), ("s", "a", "?y"), ("s", "b", "?z"), ("s", "?u", "?v"))
        self.assert_not_whole(self.book(), question, 2)
        stored = self.book(("s", "a", "?x"), ("s", "b", "?x"))
        self.assert_whole(stored, question, "whole")
        self.assert_not_whole(stored, self.ask((), *question.parts, duplicates=True), 3)

    def test_a_row_with_a_key_takes_its_partner_with_it(self):
        schema = Schema(Table("p", 2, refers=((0, "q", 0), (1, "q", 0))), Table("q", 2, key=(0,)))
        question = Question(schema, (), ("p", "?x", "?y"))
        self.assertEqual(len(decide(Book(schema), question).world), 2)
        book = Book(schema, Promise(schema, ("p", "?x", "?x")))
        pair = decide(book, question)
        check_pair(book, question, pair)
        self.assertEqual(len(pair.world), 3)

    def test_two_references_may_lead_to_one_row(self):
        schema = Schema(Table("p", 2, refers=((0, "q", 0), (1, "q", 1))), Table("q", 2))
        question = Question(schema, ("?x", "?y"), ("p", "?x", "?y"))
        self.assertEqual(len(decide(Book(schema), question).world), 2)
        book = Book(schema, Promise(schema, ("p", "?x", "?y"), ("q", "?x", "?y")))
        pair = decide(book, question)
        check_pair(book, question, pair)
        self.assertEqual(len(pair.world), 3)

    def test_new_values_are_none_of_the_values_in_use(self):
        names = [f"v{at}" for at in range(4)]
        part = ("s", "?x", "?y")
        book = self.book((part, {"?x": names[:3]}), ("s", "?x", names[3]), (part, ("s", "?y", names[0]), {"?y": names[:2]}))
        pair = self.assert_not_whole(book, self.ask(("?x",), part), 1)
        self.assertFalse(set(pair.row) & set(names))
        question = self.ask(("?x", "v4"), part, ("s", "?z", "v5"), among={"?z": ("v6", "v7")})
        pair = self.assert_not_whole(book, question, 1)
        self.assertEqual(pair.answer[1], "v4")

    def test_new_values_meet_no_condition_of_the_question(self):
        book = self.book((("s", "?x", "?y"), ("s", "?z", "?x")))
        for at in range(3):
            question = self.ask((), ("s", "?x", "?y"), ("s", "?y", "?y"), among={"?x": ("a", f"v{at}")})
            self.assert_not_whole(book, question, 2)

    def test_new_values_stand_in_no_promise(self):
        for at in range(3):
            for promise in (
                ("s", f"v{at}", "?x"), ("s", "?x", f"v{at}"), (("s", "?x", "?y"), {"?y": (f"v{at}", "a")}),
                (("s", "?x", "?y"), ("s", "?z", f"v{at}")), (("s", "?x", "?y"), ("s", "?z", "?x"), {"?z": (f"v{at}",)}),
            ):
                self.assert_not_whole(self.book(promise), self.ask((), ("s", "?x", "?y")), 1)

    def test_new_values_are_no_values_of_lists(self):
        schema = Schema(Table("q", 2, lists={1: ("v0", "v1")}))
        book, question = Book(schema, Promise(schema, ("q", "?x", "?x"))), Question(schema, (), ("q", "?x", "?y"))
        check_pair(book, question, decide(book, question))

    def test_rows_that_would_agree_cannot_become_one(self):
        schema = Schema(Table("p", 2, key=(0,), refers=((0, "q", 0),)), Table("q", 2))
        question = Question(schema, (), ("p", "?x", "a"), ("p", "?y", "b"))
        self.assertEqual(len(decide(Book(schema), question).world), 4)
        question = Question(schema, (), ("p", "?x", "?z"), ("p", "?y", "?u"))
        self.assertEqual(len(decide(Book(schema), question).world), 2)
        book = Book(schema, Promise(schema, ("p", "?x", "?y"), ("q", "?z", "?y")))
        for head in ((), ("?z", "?u")):
            question = Question(schema, head, ("p", "?x", "?z"), ("p", "?y", "?u"), among={"?u": ("b",), "?z": ("a",)})
            pair = decide(book, question)
            check_pair(book, question, pair)
            self.assertEqual(len(pair.world), 4)

    def test_with_duplicates_the_world_gives_the_answer_more_often(self):
        book = self.book((("s", "?x", "?y"), ("q", "?y", "a")), ("q", "?x", "?y"))
        question = self.ask(("?x",), ("s", "?x", "?y"), duplicates=True)
        self.assert_not_whole(book, question, 1)
        question = self.ask(("?x",), ("s", "?x", "?y"), ("s", "?x", "?z"), ("q", "?z", "a"), duplicates=True)
        pair = self.assert_not_whole(book, question, 3)
        self.assertEqual(reference.tally(question, pair.world)[pair.answer], 2)
        self.assertEqual(reference.tally(question, pair.store)[pair.answer], 1)

    def test_the_arguments_stay_as_they_were(self):
        book = self.book(("q", "?x", "?y"))
        promises = list(book)
        for question in (self.ask(("?x",), ("p", "?x", "?y")), self.ask((), ("q", "?x", "?y"))):
            before = (question.head, question.parts, dict(question.among), question.duplicates)
            decide(book, question)
            self.assertEqual((question.head, question.parts, question.among, question.duplicates), before)
            self.assertEqual(list(book), promises)

    def test_what_was_returned_is_changed_afterwards(self):
        book, question = self.book(), self.ask((), ("s", "?x", "?y"))
        pair = decide(book, question)
        world = list(pair.world)
        pair.world.clear()
        pair.store.append(("s", "a", "b"))
        self.assertEqual(decide(book, question).world, world)
        self.assertEqual(decide(book, question).store, [])


class Compared(unittest.TestCase):
    """Random small cases beside the document's words."""

    def test_with_the_worlds_of_one_match_and_what_it_leads_to(self):
        seen = set()
        for number in range(500):
            case = Case(number, widths=(1, 2, 2), variables=("?x", "?y", "?z"))
            size = reference.smallest_difference(case.tables, list(case.book), case.question)
            result = decide(case.book, case.question)
            with self.subTest(number=number):
                self.assertIs(result.whole, size is None)
                if result.whole:
                    reader = Reader(case.book, case.question)
                    reader.read(result.tree)
                    seen |= set(reader.kinds)
                else:
                    check_pair(case.book, case.question, result)
                    self.assertEqual(len(result.world), size)
                    seen.add(size)
        self.assertLessEqual({"choose", "same", "partner", "none", "whole", 1, 2, 3, 4}, seen)

    def test_with_all_small_worlds(self):
        seen = {True: 0, False: 0}
        for number in range(60):
            case = Case(number, most_parts=2, most_promises=3, widths=(1, 1, 2), variables=("?x", "?y", "?z"))
            result = decide(case.book, case.question)
            seen[result.whole] += 1
            if not result.whole:
                check_pair(case.book, case.question, result)
            values = sorted({*reference.constants_of(case.tables, case.question, *case.book), "new0", "new1"})
            most = 3 if result.whole else len(result.world) - 1
            for world in reference.all_worlds(case.tables, values, min(most, 3 if len(values) < 4 else 2)):
                store = reference.store_of(case.book, world)
                if reference.differs(case.question, world, store):
                    self.fail(f"{number}: {world} answers differently")
        self.assertGreater(min(seen.values()), 20)


class Lines(unittest.TestCase):

    def test_the_number_the_row_and_the_word(self):
        world = [("group", "g1", "north"), ("pupil", "ann", "g1"), ("q", "a")]
        lines = pair_lines(Pair(world, [world[1]], ("ann",), world[0]))
        self.assertEqual(lines, [
            " 1 group(g1, north)" + " " * 22 + " lacking",
            " 2 pupil(ann, g1)" + " " * 24 + "  stored",
            " 3 q(a)" + " " * 34 + " lacking",
        ])
        self.assertEqual({len(line) for line in lines}, {49})

    def test_a_row_longer_than_its_width(self):
        row = ("abcdefgh", "aaaaaaaa", "bbbbbbbb", "cccccccc")
        [line] = pair_lines(Pair([row], [], (), row))
        self.assertEqual(line, " 1 abcdefgh(aaaaaaaa, bbbbbbbb, cccccccc) lacking")
        [line] = pair_lines(Pair([row[:3]], [row[:3]], (), None))
        self.assertEqual(line, " 1 abcdefgh(aaaaaaaa, bbbbbbbb)" + " " * 12 + "stored")
        row = ("abcdefghij", "aaaaaaaaa", "bbbbbbbb", "cccccccc")
        [line] = pair_lines(Pair([row], [row], (), row))
        self.assertEqual(line, " 1 abcdefghij(aaaaaaaaa, bbbbbbbb, cccccccc)  stored")

    def test_more_than_nine_and_more_than_ninety_nine_rows(self):
        world = [("p", f"a{at:03}") for at in range(101)]
        lines = pair_lines(Pair(world, world, (), world[0]))
        self.assertEqual([line[:4] for line in lines[8:10]], [" 9 p", "10 p"])
        self.assertTrue(lines[100].startswith("101 p(a100) "))
        self.assertEqual(pair_lines(Pair([], [], (), None)), [])

    def test_a_pair_that_was_decided(self):
        schema = Schema(Table("p", 2, refers=((1, "q", 0),)), Table("q", 1))
        pair = decide(Book(schema, Promise(schema, ("q", "?x"))), Question(schema, (), ("p", "a", "b")))
        self.assertEqual(pair_lines(pair), [" 1 p(a, b)" + " " * 32 + "lacking", " 2 q(b)" + " " * 36 + "stored"])
