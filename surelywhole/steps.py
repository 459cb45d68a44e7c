"""Steps from a question's parts to the least worlds in which it has an answer.

A state is the parts and the head that the steps before have left. A step is
written like a node of a derivation without the nodes below it.
"""

from surelywhole.matching import fit, full_match
from surelywhole.terms import ascending, is_variable, replaced, unused


def next_step(question, parts):
    """Return the step that is due, or None if the parts keep the schema whatever their variables become."""
    # A variable that is replaced loses its condition, so conditions come first.
    return (
        condition_step(question, parts)
        or key_step(question.schema, parts)
        or partner_step(question, parts)
        or list_step(question.schema, parts)
    )


def condition_step(question, parts):
    """Return the choice of a variable that has a condition, or None."""
    for variable in ascending(question.among):
        if any([variable in part for part in parts]):
            return ("choose", variable, question.among[variable])
    return None


def key_step(schema, parts):
    """Return the step due for values off their lists and for parts that agree, or None."""
    if schema.has_off_list(parts):
        return ("none",)
    differences = schema.differences(parts)
    for i, j, column in differences:
        if not is_variable(parts[i][column + 1]) and not is_variable(parts[j][column + 1]):
            return ("none",)
    return ("same", *differences[0]) if differences else None


def partner_step(question, parts):
    """Return the step that adds the first part to which a reference leads in vain, or None."""
    lacking = question.schema.lacking(parts)
    if not lacking:
        return None
    i, k = lacking[0]
    column, name, other = question.schema.table(parts[i][0]).refers[k]
    width = question.schema.table(name).width
    variables = unused("?n", width, [*question.parts, *parts])
    terms = [parts[i][column + 1] if at == other else variables[at] for at in range(width)]
    return ("partner", i, k, (name, *terms))


def list_step(schema, parts):
    """Return the choice of a variable that stands in a column with a list, or None."""
    for part in parts:
        lists = schema.table(part[0]).lists
        for column in lists:
            if is_variable(part[column + 1]):
                return ("choose", part[column + 1], lists[column])
    return None


def states_after(step, parts, head):
    """Return the states, pairs of parts and a head, to which the step leads."""
    if step[0] == "choose":
        return [state_with(parts, head, step[1], value) for value in step[2]]
    if step[0] == "same":
        _, i, j, column = step
        first, second = parts[i][column + 1], parts[j][column + 1]
        if is_variable(first) and (not is_variable(second) or second < first):
            return [state_with(parts, head, first, second)]
        return [state_with(parts, head, second, first)]
    if step[0] == "partner":
        return [((*parts, step[3]), head)]
    return []


def state_with(parts, head, variable, term):
    """Return the state in which the term has replaced the variable."""
    return tuple([replaced(part, variable, term) for part in parts]), replaced(head, variable, term)


def gives(question, parts, head):
    """Return whether a match of the question in the parts turns its head into this head."""
    match = fit(question.head, head, question.among, {})
    return match is not None and full_match(match, question.parts, parts, question.among) is not None


def is_covered(question, other, parts, head):
    """Return whether the other question gives the head in every world to which the state leads."""
    step = next_step(question, parts)
    # A match in a state is one in each state below it, so it is sought before the state branches.
    if (step is None or step[0] == "choose") and gives(other, parts, head):
        return True
    if step is None:
        return False
    for parts_after, head_after in states_after(step, parts, head):
        if not is_covered(question, other, parts_after, head_after):
            return False
    return True


def leaves(question, parts, head):
    """Return the states at the ends of all steps from this state."""
    step = next_step(question, parts)
    if step is None:
        return [(parts, head)]
    return [
        leaf
        for parts_after, head_after in states_after(step, parts, head)
        for leaf in leaves(question, parts_after, head_after)
    ]
