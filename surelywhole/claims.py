"""Claims: that a store has what a question's matches in the world need.

A claim is met in a state if rows that are said in it turn the sought parts
into the same head. If it is met in all states at the ends of the steps, it is
met in all worlds, since in each world each match comes from one of these states.
"""

from surelywhole.matching import fit, full_match, numbers
from surelywhole.questions import Question
from surelywhole.steps import leaves


class Claim:
    """That the sought parts of a question have a stored match to the same head."""

    def __init__(self, question, head, sought):
        self.question = question
        self.head = head
        self.sought = sought


def whole_claim(question):
    """Return the claim that holds where the question is whole."""
    head = question.head
    if question.duplicates:
        # With all terms in the head, no match but the one in the world will do.
        head = (*head, *[term for part in question.parts for term in part[1:]])
    return Claim(question, head, question.parts)


def promise_claim(schema, promise):
    """Return the claim that holds where the promise follows."""
    head = promise.part[1:]
    question = Question(schema, head, promise.part, *promise.partners, among=promise.among)
    return Claim(question, head, (promise.part,))


def is_said(row, promises, world):
    """Return whether one of the promises says the row."""
    for promise in promises:
        if promise.says(row, world):
            return True
    return False


def numbers_found(claim, promises, parts, head):
    """Return the numbers of said parts into which a match turns the sought ones, or None."""
    among = claim.question.among
    match = fit(claim.head, head, among, {})
    if match is None:
        return None
    useful = [part for part in parts if can_serve(part, claim.sought, among, match)]
    said = [part for part in useful if is_said(part, promises, parts)]
    found = full_match(match, claim.sought, said, among)
    return None if found is None else numbers(claim.sought, parts, found)


def can_serve(part, sought, among, match):
    """Return whether the match may turn one of the sought parts into this one."""
    for wanted in sought:
        if fit(wanted, part, among, match) is not None:
            return True
    return False


def claim_leaves(claim):
    """Return the states at the ends of all steps from the claim's question."""
    return leaves(claim.question, claim.question.parts, claim.head)


def first_unmet(claim, promises, states):
    """Return the index of the first state in which the claim is not met, or None."""
    for at, state in enumerate(states):
        if numbers_found(claim, promises, *state) is None:
            return at
    return None


def is_met(claim, promises):
    """Return whether the claim is met in all worlds whose stores keep the promises."""
    return first_unmet(claim, promises, claim_leaves(claim)) is None
