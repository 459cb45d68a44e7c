"""Readers of derivations and of pairs: each sentence of points 9, 10 and 11, in the document's words.

Nothing here uses the program's own search.
"""

from collections import Counter

from tests import reference


def variable(term):
    return term.startswith("?")


def one_match(patterns, targets, among):
    """The match that turns each pattern into the target beside it, or None."""
    match = {}
    for pattern, target in zip(patterns, targets, strict=True):
        if len(pattern) != len(target) or pattern[0] != target[0]:
            return None
        for term, other in zip(pattern[1:], target[1:]):
            if (match.setdefault(term, other) if variable(term) else term) != other:
                return None
    if any(match[name] not in values for name, values in among.items()):
        return None
    return match


class Reader:
    """Reads a derivation of a question under a book, and raises an AssertionError where it breaks point 9."""

    def __init__(self, book, question):
        self.promises = list(book)
        self.question = question
        self.tables = {table.name: table for table in question.schema.named.values()}
        self.kinds = Counter()
        self.longest = 0

    def read(self, tree):
        self.node(tree, list(self.question.parts), self.question.head, 1)
        assert self.longest <= 100

    def node(self, node, parts, head, depth):
        assert isinstance(node, tuple)
        self.longest = max(self.longest, depth)
        self.kinds[node[0]] += 1
        assert node[0] in ("choose", "same", "partner", "none", "whole"), node
        getattr(self, node[0])(parts, head, depth, *node[1:])

    def replaced(self, parts, head, name, term):
        def change(terms):
            return tuple(term if item == name else item for item in terms)
        return [change(part) for part in parts], change(head)

    def columns(self, parts):
        return [(part, column, part[column + 1]) for part in parts for column in range(self.tables[part[0]].width)]

    def choose(self, parts, head, depth, name, branches):
        assert variable(name) and any(name in part for part in parts)
        ways = [values for wanted, values in self.question.among.items() if wanted == name]
        ways += [
            self.tables[part[0]].lists[column] for part, column, term in self.columns(parts)
            if term == name and column in self.tables[part[0]].lists
        ]
        assert isinstance(branches, tuple) and all(isinstance(branch, tuple) for branch in branches)
        assert tuple(value for value, _ in branches) in [tuple(sorted(set(values))) for values in ways]
        for value, below in branches:
            self.node(below, *self.replaced(parts, head, name, value), depth + 1)

    def same(self, parts, head, depth, i, j, column, below):
        assert 0 <= i < len(parts) and 0 <= j < len(parts)
        one, other = parts[i], parts[j]
        table = self.tables[one[0]]
        assert one[0] == other[0] and table.key and all(one[at + 1] == other[at + 1] for at in table.key)
        assert 0 <= column < table.width
        first, second = one[column + 1], other[column + 1]
        assert first != second and (variable(first) or variable(second))
        if variable(first) and variable(second):
            name, term = max(first, second), min(first, second)
        else:
            name, term = (first, second) if variable(first) else (second, first)
        self.node(below, *self.replaced(parts, head, name, term), depth + 1)

    def partner(self, parts, head, depth, i, k, part, below):
        assert 0 <= i < len(parts)
        column, name, other = self.tables[parts[i][0]].refers[k]
        assert k >= 0 and isinstance(part, tuple) and part[0] == name and len(part) == self.tables[name].width + 1
        assert part[other + 1] == parts[i][column + 1]
        new = [term for at, term in enumerate(part[1:]) if at != other]
        assert len(set(new)) == len(new) and all(variable(term) for term in new)
        old = [*head, *self.question.head, *self.question.among]
        old += [term for owner in (*parts, *self.question.parts) for term in owner[1:]]
        assert not set(new) & set(old)
        for term in new:
            text = term[1:]
            assert 1 <= len(text) <= 8 and set(text) <= set("abcdefghijklmnopqrstuvwxyz0123456789")
        self.node(below, [*parts, part], head, depth + 1)

    def none(self, parts, head, depth):
        off = any(
            not variable(term) and term not in self.tables[part[0]].lists.get(column, (term,))
            for part, column, term in self.columns(parts)
        )
        clash = any(
            part[0] == other[0] and self.tables[part[0]].key
            and all(part[at + 1] == other[at + 1] for at in self.tables[part[0]].key)
            and any(a != b and not variable(a) and not variable(b) for a, b in zip(part[1:], other[1:]))
            for part in parts for other in parts
        )
        assert off or clash

    def whole(self, parts, head, depth, stored, found):
        assert isinstance(stored, tuple) and isinstance(found, tuple)
        for pair in stored:
            assert isinstance(pair, tuple) and len(pair) == 2 and isinstance(pair[1], tuple)
        for p, chosen in stored:
            assert 0 <= p < len(self.promises) and all(0 <= at < len(parts) for at in chosen)
            promise = self.promises[p]
            targets = [parts[at] for at in chosen]
            assert one_match((promise.part, *promise.partners), targets, promise.among) is not None
        assert all(0 <= at < len(parts) for at in found)
        match = one_match(self.question.parts, [parts[at] for at in found], self.question.among)
        assert match is not None
        assert tuple(match.get(term, term) for term in self.question.head) == tuple(head)
        assert set(found) <= {chosen[0] for _, chosen in stored}
        if self.question.duplicates:
            assert all(parts[at] == parts[n] for n, at in enumerate(found))


def check_rows(rows):
    assert isinstance(rows, list) and all(isinstance(row, tuple) for row in rows)
    assert rows == sorted(set(rows))
    for row in rows:
        for value in row[1:]:
            assert 1 <= len(value) <= 8 and set(value) <= set("abcdefghijklmnopqrstuvwxyz0123456789")


def check_kept(tables, promises, pair):
    """The sentences that hold of each pair, of a question and of two books."""
    check_rows(pair.world)
    check_rows(pair.store)
    assert reference.keeps(tables, pair.world)
    assert pair.store == reference.store_of(promises, pair.world)
    assert pair.row in pair.world and pair.row not in pair.store


def check_pair(book, question, pair):
    """Every sentence of point 11 on the pair itself; that no smaller world does is for the caller to see."""
    assert pair.whole is False
    check_kept(question.schema.named, list(book), pair)
    inside = reference.tally(question, pair.world)[pair.answer]
    stored = reference.tally(question, pair.store)[pair.answer]
    assert inside > 0
    assert inside > stored if question.duplicates else stored == 0
    givers = [
        match for match in reference.matches(question.parts, question.among, pair.world)
        if reference.replace(question.head, match) == pair.answer
    ]
    assert any(pair.row == reference.replace(part, match) for part in question.parts for match in givers)
