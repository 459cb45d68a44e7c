"""The worlds with the fewest rows in which a claim is not met.

Such a world is one of the states at the ends of the steps in which some parts
have become equal. A claim that is met in a state is met after every merging.
"""

from surelywhole.claims import claim_leaves, numbers_found
from surelywhole.steps import key_step, states_after
from surelywhole.terms import is_variable, once


def smallest_unmet(claim, promises, best=None):
    """Return a state with the fewest rows in which the claim is not met, or best if none has fewer."""
    for parts, head in claim_leaves(claim):
        if numbers_found(claim, promises, parts, head) is None:
            best = smaller(claim, promises, parts, head, 0, best)
    return best


def smaller(claim, promises, parts, head, at, best):
    """Return the smallest state that merging the parts from this number on makes, if it is smaller than best."""
    if best is not None and least_many(parts, at) >= many_rows(best[0]):
        return best
    if at == len(parts):
        return (parts, head)
    after = at + 1
    if parts[at] not in parts[:at]:
        for other in once(parts[:at]):
            state = merged(claim.question.schema, parts, head, parts.index(other), at)
            if state is not None and numbers_found(claim, promises, *state) is None:
                best = smaller(claim, promises, *state, after, best)
    return smaller(claim, promises, parts, head, after, best)


def many_rows(parts):
    """Return how many different rows the parts are."""
    return len(once(parts))


def least_many(parts, at):
    """Return how many rows at least remain if the parts before this number are merged no further."""
    apart = once(parts[:at])
    for part in parts[at:]:
        if all([is_apart(part, other) for other in apart]):
            apart.append(part)
    return len(apart)


def is_apart(part, other):
    """Return whether the parts cannot become equal."""
    pairs = [(term, word) for term, word in zip(part[1:], other[1:]) if term != word]
    return part[0] != other[0] or any([not is_variable(term) and not is_variable(word) for term, word in pairs])


def merged(schema, parts, head, i, j):
    """Return the state after parts i and j have become equal, or None if they cannot."""
    if parts[i][0] != parts[j][0]:
        return None
    for column in range(len(parts[i]) - 1):
        first, second = parts[i][column + 1], parts[j][column + 1]
        if first != second:
            if not is_variable(first) and not is_variable(second):
                return None
            parts, head = states_after(("same", i, j, column), parts, head)[0]
    return after_keys(schema, parts, head)


def after_keys(schema, parts, head):
    """Return the state in which no different parts agree, or None if there is none."""
    step = key_step(schema, parts)
    while step is not None:
        if step[0] == "none":
            return None
        parts, head = states_after(step, parts, head)[0]
        step = key_step(schema, parts)
    return (parts, head)
