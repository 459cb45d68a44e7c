"""Whether questions are whole and promises follow, why they do, and what would help."""

from itertools import combinations

from surelywhole.claims import claim_leaves, first_unmet, is_met, is_said, promise_claim, whole_claim
from surelywhole.least import smallest_unmet
from surelywhole.matching import turned
from surelywhole.questions import Promise
from surelywhole.steps import gives
from surelywhole.terms import is_variable, once, unused
from surelywhole.trees import tree

MOST_PARTS = 3


class Derivation:
    """Why a question is whole."""

    def __init__(self, root):
        self.whole = True
        self.tree = root


class Pair:
    """A world and a store that answer a question differently, or that do not keep a promise."""

    def __init__(self, world, store, answer, row):
        self.whole = False
        self.world = world
        self.store = store
        self.answer = answer
        self.row = row


def decide(book, question):
    """Return a derivation if the question is whole under the book, and otherwise a smallest pair."""
    claim = whole_claim(question)
    root = tree(claim, book.promises, question.parts, claim.head)
    if root is not None:
        return Derivation(root)
    parts, head = smallest_unmet(claim, book.promises)
    words = [*words_of(question.parts, question.among), *words_of_all(book.promises)]
    match = with_values(parts, words)
    rows = [turned(part, match) for part in parts]
    return pair_of(rows, book.promises, rows[:len(question.parts)], turned(head[:len(question.head)], match))


def parting(book, other):
    """Return a smallest pair that keeps the other book and not this one, or None if there is none."""
    best = None
    for promise in book.promises:
        best = smallest_unmet(promise_claim(book.schema, promise), other.promises, best)
    if best is None:
        return None
    match = with_values(best[0], words_of_all(other.promises))
    rows = [turned(part, match) for part in best[0]]
    return pair_of(rows, other.promises, rows[:1], None)


def pair_of(rows, promises, needed, answer):
    """Return the pair of a world of these rows, with one of the needed rows that it lacks."""
    world = sorted(once(rows), key=str)
    store = [row for row in world if is_said(row, promises, world)]
    lacking = [row for row in needed if row not in store]
    return Pair(world, store, answer, lacking[0])


def with_values(parts, words):
    """Return a match of the parts' variables to different values that are in none of these lists of words."""
    variables = once([term for part in parts for term in part[1:] if is_variable(term)])
    return dict(zip(variables, unused("v", len(variables), [*words, *parts])))


def words_of(parts, among):
    """Return the lists of terms that stand in the parts and the conditions."""
    return [*parts, *[among[variable] for variable in among]]


def words_of_all(promises):
    """Return the lists of terms that stand in the promises."""
    return [words for one in promises for words in words_of((one.part, *one.partners), one.among)]


def supports(book, question):
    """Return the sets of promises that make the question whole and of which no part does."""
    claim = whole_claim(question)
    states = claim_leaves(claim)
    found = []
    for chosen in choices(book.promises, len(book.promises)):
        if not has_part(chosen, found):
            at = first_unmet(claim, [book.promises[index] for index in chosen], states)
            if at is None:
                found.append(chosen)
            else:
                # The next promises likely fail in the same state, so it comes first.
                states = [states[at], *states[:at], *states[at + 1:]]
    return found


def choices(things, most):
    """Return the sets of at most so many things, as tuples of ascending indexes, in the order of point 12."""
    return [
        chosen
        for size in range(min(most, len(things)) + 1)
        for chosen in combinations(range(len(things)), size)
    ]


def has_part(chosen, found):
    """Return whether one of the found tuples is a part of the chosen one."""
    for part in found:
        if all([index in chosen for index in part]):
            return True
    return False


def weakest(book, question):
    """Return the weakest promises that make the question whole, with duplicates too, beside the book."""
    found = []
    for at, part in enumerate(question.parts):
        partners = (*question.parts[:at], *question.parts[at + 1:])
        promise = Promise(question.schema, part, *partners, among=question.among)
        if promise not in found and not is_met(promise_claim(question.schema, promise), book.promises):
            found.append(promise)
    return found


def widest(book, question, options, most):
    """Return the sets of at most so many options that make the question whole and leave it as wide as can be."""
    whole = []
    for chosen in choices(options, most):
        extended = with_options(question, [options[index] for index in chosen])
        if len(extended.parts) <= MOST_PARTS:
            claim = whole_claim(extended)
            states = claim_leaves(claim)
            if first_unmet(claim, book.promises, states) is None:
                whole.append(Extension(chosen, extended, states))
    best = best_of(whole)
    return [one.chosen for one in whole if not has_wider(one, best)]


class Extension:
    """A question with the options of these indexes, and the states at the ends of its steps."""

    def __init__(self, chosen, question, states):
        self.chosen = chosen
        self.question = question
        self.states = states

    def is_within(self, other):
        """Return whether the other question gives each answer of this one, as question <= other does."""
        many = len(self.question.head)
        for parts, head in self.states:
            if not gives(other.question, parts, head[:many]):
                return False
        return True


def with_options(question, options):
    """Return the question with these options."""
    for option in options:
        question = question & option
    return question


def best_of(extensions):
    """Return some of the extensions: for each of them one that gives all of its answers."""
    best = []
    for one in extensions:
        if not any([one.is_within(other) for other in best]):
            best = [other for other in best if not other.is_within(one)]
            best.append(one)
    return best


def has_wider(one, extensions):
    """Return whether one of the extensions is wider than this one."""
    above = [other for other in extensions if one.is_within(other)]
    return any([not other.is_within(one) for other in above])


def pair_lines(pair):
    """Return a line for each row of the pair's world."""
    lines = []
    for at, row in enumerate(pair.world, start=1):
        text = row[0] + "(" + ", ".join(row[1:]) + ")"
        word = "stored" if row in pair.store else "lacking"
        lines.append(f"{at:>2} {text:<38} {word:>7}")
    return lines
