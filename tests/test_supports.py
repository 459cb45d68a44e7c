"""Points 12, 13 and 14: supports, weakest and widest."""

import unittest
from itertools import combinations

from surelywhole.books import Book
from surelywhole.deciding import decide, supports, weakest, widest
from surelywhole.questions import Promise, Question
from surelywhole.schemas import Schema, Table
from tests import reference
from tests.cases import Case

SCHEMA = Schema(
    Table("p", 2, key=(0,), refers=((1, "q", 0),)), Table("q", 2, lists={1: ("a", "b")}), Table("s", 2),
)


def promise(*parts, **among):
    return Promise(SCHEMA, *parts, among={f"?{name}": tuple(values) for name, values in among.items()})


def ask(head, *parts, duplicates=False, **among):
    conditions = {f"?{name}": tuple(values) for name, values in among.items()}
    return Question(SCHEMA, head, *parts, among=conditions, duplicates=duplicates)


def sets(many, most):
    return [chosen for size in range(min(many, most) + 1) for chosen in combinations(range(many), size)]


S = ("s", "?x", "?y")


class Supports(unittest.TestCase):

    def assert_supports(self, promises, question, *wanted):
        book = Book(SCHEMA, *promises)
        found = supports(book, question)
        self.assertEqual(found, list(wanted))
        self.assertTrue(all(isinstance(chosen, tuple) for chosen in found))
        self.assertEqual(list(book), list(promises))

    def test_no_promise_needed(self):
        for question in (ask((), ("q", "?x", "c")), ask(("?x",), S, x=""), ask((), ("p", "?x", "a"), ("p", "?x", "b"))):
            self.assert_supports([], question, ())
            self.assert_supports([promise(S), promise(("q", "?x", "?y"))], question, ())

    def test_none(self):
        self.assert_supports([], ask((), S))
        self.assert_supports([promise(("s", "?x", "?x")), promise(("q", "?x", "?y"))], ask((), S))

    def test_one_and_several_promises(self):
        self.assert_supports([promise(S)], ask((), S), (0,))
        question = ask(("?x",), ("q", "?x", "?y"))
        first, second = promise(("q", "?x", "a")), promise(("q", "?x", "b"))
        self.assert_supports([first, second], question, (0, 1))
        self.assert_supports([first, promise(S), second], question, (0, 2))
        self.assert_supports([first, promise(("q", "?x", "?y")), second], question, (1,), (0, 2))

    def test_the_order(self):
        part = ("s", "?x", "?y")
        promises = [promise(part, x=values) for values in ("a", "ab", "c", "bc", "b", "abc")]
        self.assert_supports(promises, ask((), part, x="abc"), (5,), (0, 3), (1, 2), (1, 3), (0, 2, 4))

    def test_with_and_without_duplicates(self):
        parts = ("s", "?x", "?y"), ("s", "?x", "?z"), ("q", "?z", "a")
        promises = [promise(("s", "?x", "?z"), ("q", "?z", "a")), promise(("q", "?z", "?y")), promise(S)]
        self.assert_supports(promises, ask(("?x",), *parts), (0, 1), (1, 2))
        self.assert_supports(promises, ask(("?x",), *parts, duplicates=True), (1, 2))


class Weakest(unittest.TestCase):

    def assert_weakest(self, promises, question, *wanted):
        book = Book(SCHEMA, *promises)
        found = weakest(book, question)
        self.assertEqual(found, list(wanted))
        self.assertEqual(list(book), list(promises))
        full = book | Book(SCHEMA, *found)
        for duplicates in (False, True):
            again = Question(SCHEMA, question.head, *question.parts, among=question.among, duplicates=duplicates)
            self.assertIs(decide(full, again).whole, True)

    def test_the_order_of_the_parts_and_of_the_partners(self):
        parts = ("s", "?x", "?y"), ("q", "?y", "?z"), ("p", "?x", "?u")
        self.assert_weakest(
            [], ask(("?x",), *parts, z="a", u="de"),
            promise(*parts, z="a", u="de"), promise(parts[1], parts[0], parts[2], z="a", u="de"),
            promise(parts[2], *parts[:2], z="a", u="de"),
        )

    def test_equal_promises_once(self):
        self.assert_weakest([], ask((), S, S), promise(S, S))
        self.assert_weakest([], ask((), S, ("s", "?y", "?x"), S), promise(S, ("s", "?y", "?x"), S), promise(("s", "?y", "?x"), S, S),
                            promise(S, S, ("s", "?y", "?x")))

    def test_those_that_follow_are_left_out(self):
        parts = S, ("q", "?y", "?z")
        self.assert_weakest([promise(S)], ask(("?x",), *parts), promise(parts[1], S))
        self.assert_weakest([promise(("q", "?y", "?z"))], ask(("?x",), *parts), promise(*parts))
        self.assert_weakest([promise(S, x="ab")], ask((), *parts, x="b"), promise(parts[1], S, x="b"))
        self.assert_weakest([promise(S, x="a")], ask((), S, x="ab"), promise(S, x="ab"))
        self.assert_weakest([], ask((), ("p", "?x", "?y"), ("q", "?z", "c")))

    def test_a_question_that_is_whole(self):
        self.assert_weakest([promise(S)], ask((), S))
        self.assert_weakest([promise(S)], ask((), S, ("s", "?y", "?z"), duplicates=True))
        self.assert_weakest([], ask((), S, x=""))

    def test_promises_that_whole_without_duplicates_does_not_need(self):
        question = ask(("?x",), ("s", "?x", "?y"), ("s", "?x", "?z"), ("q", "?z", "a"))
        promises = [promise(("s", "?x", "?z"), ("q", "?z", "a")), promise(("q", "?z", "?y"))]
        self.assertIs(decide(Book(SCHEMA, *promises), question).whole, True)
        self.assert_weakest(promises, question, promise(*question.parts))


class Widest(unittest.TestCase):

    def assert_widest(self, promises, question, options, most, *wanted):
        book, given = Book(SCHEMA, *promises), list(options)
        found = widest(book, question, given, most)
        self.assertEqual(found, list(wanted))
        self.assertTrue(all(isinstance(chosen, tuple) for chosen in found))
        self.assertEqual((given, list(book)), (list(options), list(promises)))
        return found

    def test_a_question_that_is_whole_already(self):
        options = [("q", "?y", "a"), ("?x", ("a", "b"))]
        for most in (0, 1, 2, 5):
            self.assert_widest([promise(S)], ask(("?x",), S), options, most, ())
        self.assert_widest([promise(S)], ask(("?x",), S), [], 3, ())

    def test_parts_and_conditions(self):
        options = [("q", "?y", "a"), ("?x", ("a", "b")), ("q", "?y", "?z")]
        some = [promise(S, ("q", "?y", "?z")), promise(("q", "?x", "?y"))]
        self.assert_widest(some, ask(("?x",), S), options, 3, (2,))
        self.assert_widest(some, ask(("?x",), S), options[:2], 3, (0,))
        self.assert_widest([promise(S, x="ab")], ask(("?x",), S), options, 3, (1,))
        self.assert_widest(some + [promise(S, x="ab")], ask(("?x",), S), options, 3, (1,), (2,))
        self.assert_widest(some + [promise(S, x="ab")], ask(("?x",), S), options, 1, (1,), (2,))

    def test_most(self):
        part = ("s", "?x", "?y")
        options = [("?x", ("a",)), ("?y", ("b", "c"))]
        both = [promise(part, x="a", y="bc")]
        self.assert_widest(both, ask((), part), options, 0)
        self.assert_widest(both, ask((), part), options, 1)
        self.assert_widest(both, ask((), part), options, 2, (0, 1))
        self.assert_widest(both, ask((), part), options, 100, (0, 1))
        self.assert_widest([promise(part)], ask((), part), options, 0, ())

    def test_options_that_are_parts_already(self):
        options = [S, ("q", "?y", "?z"), S]
        self.assert_widest([promise(S)], ask(("?x",), S), options, 3, (), (0,), (2,), (0, 2))
        some = [promise(S, ("q", "?y", "?z")), promise(("q", "?x", "?y"))]
        self.assert_widest(some, ask(("?x",), S), options, 2, (1,), (0, 1), (1, 2))

    def test_more_than_three_parts(self):
        options = [("q", "?y", "a"), ("q", "?x", "a"), ("s", "?y", "?x"), S]
        found = self.assert_widest(
            [promise(S), promise(("q", "?x", "?y"))], ask(("?x",), S), options, 4, (), (3,)
        )
        self.assertEqual(found, [(), (3,)])
        need = [promise(S, ("q", "?y", "a"), ("q", "?x", "a")), promise(("q", "?x", "?y"))]
        self.assert_widest(need, ask(("?x", "?y"), S), options, 4, (0, 1), (0, 1, 3))
        self.assert_widest(need, ask(("?x", "?y"), S, ("s", "?y", "?z")), options, 4)
        four = ask((), S, ("q", "?y", "?z"), ("q", "?x", "?u"), ("s", "?y", "?x"))
        self.assert_widest([promise(S), promise(("q", "?x", "?y"))], four, options, 4)

    def test_conditions_on_one_variable(self):
        options = [("?x", ("a", "b")), ("?x", ("b", "c")), ("?x", ("c", "a")), ("?x", ())]
        some = [promise(S, x="b")]
        self.assert_widest(some, ask(("?x",), S), options, 4, (0, 1))
        self.assert_widest([promise(S, x="a"), promise(S, x="b")], ask(("?x",), S), options, 4, (0,))
        self.assert_widest([], ask(("?x",), S), options, 4, (3,), (0, 3), (1, 3), (2, 3), (0, 1, 2), (0, 1, 3),
                           (0, 2, 3), (1, 2, 3), (0, 1, 2, 3))
        self.assert_widest([promise(S, x="b")], ask(("?x",), S, x="bd"), options, 1, (0,), (1,))

    def test_options_that_make_no_difference(self):
        options = [("s", "?x", "?z"), ("?x", ("a", "b"))]
        self.assert_widest([promise(S)], ask(("?x",), S), options, 2, (), (0,))
        led = ask(("?x",), ("p", "?x", "?y"))
        self.assert_widest([promise(("p", "?x", "?y"))], led, [("q", "?y", "?z")], 1, ())
        stored = [promise(("p", "?x", "?y")), promise(("q", "?x", "?y"))]
        self.assert_widest(stored, led, [("q", "?y", "?z")], 1, (), (0,))

    def test_with_and_without_duplicates(self):
        some = [promise(("s", "?x", "?z"), ("q", "?z", "?u")), promise(("q", "?z", "?y"))]
        option = ("q", "?z", "?u")
        self.assert_widest(some, ask(("?x",), S, ("s", "?x", "?z")), [option], 1, (0,))
        self.assert_widest(some, ask(("?x",), S, ("s", "?x", "?z"), duplicates=True), [option], 1)


class Compared(unittest.TestCase):
    """Random small cases beside the document's words."""

    def cases(self, first, many):
        for number in range(first, first + many):
            case = Case(number, widths=(1, 2, 2), variables=("?x", "?y", "?z"))
            with self.subTest(number=number):
                yield case

    def is_whole(self, case, promises, question):
        return reference.smallest_difference(case.tables, promises, question) is None

    def test_supports(self):
        seen = set()
        for case in self.cases(2000, 200):
            promises = list(case.book)
            whole = [
                set(chosen) for chosen in sets(len(promises), len(promises))
                if self.is_whole(case, [promises[at] for at in chosen], case.question)
            ]
            found = supports(case.book, case.question)
            self.assertEqual(found, [tuple(sorted(one)) for one in whole if not any(other < one for other in whole)])
            seen |= {len(found), *[len(chosen) + 10 for chosen in found]}
        self.assertLessEqual({0, 1, 2, 3, 10, 11, 12}, seen)

    def test_weakest(self):
        seen = set()
        for case in self.cases(2200, 200):
            wanted, parts = [], case.question.parts
            for at, part in enumerate(parts):
                one = Promise(case.schema, part, *parts[:at], *parts[at + 1:], among=case.question.among)
                follows = reference.smallest_parting(case.tables, case.schema, [one], list(case.book)) is None
                if one not in wanted and not follows:
                    wanted.append(one)
            self.assertEqual(weakest(case.book, case.question), wanted)
            seen.add(len(wanted))
        self.assertEqual(seen, {0, 1, 2, 3})

    def some_options(self, case):
        names = sorted({term for part in case.question.parts for term in part[1:] if term.startswith("?")})
        options = []
        for _ in range(case.random.randint(1, 4)):
            kind = case.random.random()
            if names and kind < 0.4:
                options.append((case.random.choice(names), case.some_values(0)))
            else:
                options.append(case.make_part() if kind < 0.8 else case.random.choice(case.question.parts))
        return options

    def test_widest(self):
        seen = set()
        for case in self.cases(2400, 200):
            options, most = self.some_options(case), case.random.randint(0, 4)
            whole = []
            for chosen in sets(len(options), most):
                question = case.question
                for at in chosen:
                    question = question & options[at]
                if len(question.parts) <= 3 and self.is_whole(case, list(case.book), question):
                    whole.append((chosen, question))
            wanted = [
                chosen for chosen, one in whole
                if not any(self.is_wider(case.tables, other, one) for _, other in whole)
            ]
            self.assertEqual(widest(case.book, case.question, options, most), wanted)
            seen.add(len(wanted))
        self.assertLessEqual({0, 1, 2, 3, 4}, seen)

    def is_wider(self, tables, other, one):
        return reference.is_within(tables, one, other) and not reference.is_within(tables, other, one)
