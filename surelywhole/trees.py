"""Derivations: trees of the steps from a question, with what is stored at their ends."""

from surelywhole.claims import numbers_found
from surelywhole.matching import numbers
from surelywhole.steps import next_step, states_after
from surelywhole.terms import once


def tree(claim, promises, parts, head):
    """Return a tree for the state, or None if there is none."""
    step = next_step(claim.question, parts)
    # What is found before a choice is found after it too, in a smaller tree.
    if step is None or step[0] == "choose":
        found = numbers_found(claim, promises, parts, head)
        if found is not None:
            return ("whole", what_is_stored(found, promises, parts), found)
    if step is None:
        return None
    nodes = []
    for state in states_after(step, parts, head):
        node = tree(claim, promises, *state)
        if node is None:
            return None
        nodes.append(node)
    return with_nodes(step, nodes)


def with_nodes(step, nodes):
    """Return the step as a node above these nodes."""
    if step[0] == "choose":
        return ("choose", step[1], tuple(zip(step[2], nodes)))
    return (*step, *nodes)


def what_is_stored(found, promises, parts):
    """Return why the parts of these numbers are stored: promises, and the numbers of their matches."""
    return tuple([why_stored(at, promises, parts) for at in once(found)])


def why_stored(at, promises, parts):
    """Return the index of a promise that says the part, and the numbers of a match."""
    matches = [promise.match_for(parts[at], parts) for promise in promises]
    says = [match is not None for match in matches]
    index = says.index(True)
    promise = promises[index]
    return (index, numbers((promise.part, *promise.partners), parts, matches[index]))
