"""The document's words on worlds and matches, tried out one by one.

Nothing here uses the program's own search: every replacement of variables is
tried, and a world is checked row by row.
"""

from collections import Counter
from itertools import combinations, product

from surelywhole.questions import Question


def variables_of(parts):
    return sorted({term for part in parts for term in part[1:] if term.startswith("?")})


def values_of(parts):
    return {term for part in parts for term in part[1:] if not term.startswith("?")}


def replace(terms, match):
    return tuple(match.get(term, term) for term in terms)


def matches(parts, among, rows):
    """All matches of the parts in the rows, by trying every choice of rows."""
    found = []
    for chosen in product(sorted(set(rows)), repeat=len(parts)):
        match = {}
        fits = True
        for part, row in zip(parts, chosen):
            if part[0] != row[0]:
                fits = False
                break
            for term, value in zip(part[1:], row[1:]):
                wanted = match.setdefault(term, value) if term.startswith("?") else term
                fits = fits and wanted == value
        if fits and all(match[variable] in values for variable, values in among.items()):
            if match not in found:
                found.append(match)
    return found


def answers(question, rows):
    found = matches(question.parts, question.among, rows)
    return {replace(question.head, match) for match in found}


def said(promise, world):
    found = matches((promise.part, *promise.partners), promise.among, world)
    return {replace(promise.part, match) for match in found}


def clash(table, row, other):
    return (
        row != other
        and len(table.key) > 0
        and all(row[column + 1] == other[column + 1] for column in table.key)
    )


def lacking(tables, world):
    """The (row, reference) for which the world has no row."""
    return [
        (row, reference)
        for row in world
        for reference in tables[row[0]].refers
        if not any(
            target[0] == reference[1] and target[reference[2] + 1] == row[reference[0] + 1]
            for target in world
        )
    ]


def keeps_keys_and_lists(tables, world):
    for row in world:
        for column, values in tables[row[0]].lists.items():
            if row[column + 1] not in values:
                return False
    for row, other in combinations(world, 2):
        if row[0] == other[0] and clash(tables[row[0]], row, other):
            return False
    return True


def keeps(tables, world):
    return keeps_keys_and_lists(tables, world) and not lacking(tables, world)


def all_rows(tables, values):
    return [
        (table.name, *terms)
        for table in tables.values()
        for terms in product(values, repeat=table.width)
    ]


def all_worlds(tables, values, most):
    """All worlds of at most this many rows over these values that keep the schema."""
    rows = all_rows(tables, values)
    for size in range(most + 1):
        for world in combinations(rows, size):
            if keeps(tables, world):
                yield world


def replacements(variables, values, new):
    """All replacements of the variables, up to the names of values not used so far.

    The numbers below `new` name the new values in use; more are taken in their
    order only. Each replacement comes with the number after it.
    """
    found = [({}, new)]
    for variable in variables:
        found = [
            ({**match, variable: value}, max(upto, at + 1))
            for match, upto in found
            for at, value in (
                *[(-1, value) for value in values],
                *[(at, f"new{at}") for at in range(upto + 1)],
            )
        ]
    return found


def completed(tables, world, values, new):
    """All worlds that add to this one only rows to which references lead."""
    if not keeps_keys_and_lists(tables, world):
        return
    missing = lacking(tables, world)
    if not missing:
        yield world
        return
    row, (column, name, other) = missing[0]
    free = [at for at in range(tables[name].width) if at != other]
    for match, upto in replacements(free, values, new):
        match[other] = row[column + 1]
        added = (name, *[match[at] for at in range(tables[name].width)])
        yield from completed(tables, (*world, added), values, upto)


def least_worlds(tables, question, values):
    """All worlds, up to the names of new values, of one match and what its rows lead to."""
    for match, new in replacements(variables_of(question.parts), values, 0):
        if all(match[variable] in kept for variable, kept in question.among.items()):
            world = tuple(sorted({(part[0], *replace(part[1:], match)) for part in question.parts}))
            for whole in completed(tables, world, values, new):
                yield replace(question.head, match), whole


def is_within(tables, question, other):
    """Whether other gives every answer of the question in every world that keeps the schema.

    An answer rests on one match, and other gives no more in fewer rows: so a
    world that tells them apart still does with only the rows of that match and
    those to which references lead on. Only such worlds are tried.
    """
    constants = values_of(question.parts) | values_of(other.parts)
    constants |= {term for term in (*question.head, *other.head) if not term.startswith("?")}
    for owner in (question.among, other.among, *[table.lists for table in tables.values()]):
        constants |= {value for values in owner.values() for value in values}
    for answer, world in least_worlds(tables, question, tuple(sorted(constants))):
        if answer not in answers(other, world):
            return False
    return True


def tally(question, rows):
    """How many matches give each answer."""
    found = matches(question.parts, question.among, rows)
    return Counter(replace(question.head, match) for match in found)


def in_order(question, rows):
    """The answers in ascending order, with duplicates as often as there are matches."""
    counts = tally(question, rows)
    return sorted(counts.elements() if question.duplicates else counts)


def store_of(promises, world):
    """The rows that the promises say: the least store that keeps them."""
    return sorted(row for row in set(world) if any(row in said(promise, world) for promise in promises))


def differs(question, world, store):
    """Whether the world and the store answer the question differently."""
    return in_order(question, world) != in_order(question, store)


def breaks(promise, world, store):
    """Whether the promise says a row that is not stored."""
    return not said(promise, world) <= set(store)


def constants_of(tables, *owners):
    """All values in the tables' lists and in the questions and promises."""
    found = {value for table in tables.values() for values in table.lists.values() for value in values}
    for owner in owners:
        parts = owner.parts if hasattr(owner, "parts") else (owner.part, *owner.partners)
        found |= values_of(parts) | {value for values in owner.among.values() for value in values}
        found |= {term for term in getattr(owner, "head", ()) if not term.startswith("?")}
    return tuple(sorted(found))


def smallest_difference(tables, promises, question):
    """The fewest rows of a world whose least store answers the question differently, or None.

    An answer rests on one match. So a smallest world has only the rows of that
    match and those to which references lead on, and only such worlds are tried.
    """
    values = constants_of(tables, question, *promises)
    sizes = [
        len(world) for _, world in least_worlds(tables, question, values)
        if differs(question, world, store_of(promises, world))
    ]
    return min(sizes, default=None)


def smallest_parting(tables, schema, promises, others):
    """The fewest rows of a world whose least store keeps the others and not the promises, or None."""
    values = constants_of(tables, *promises, *others)
    sizes = []
    for promise in promises:
        question = Question(schema, (), promise.part, *promise.partners, among=promise.among)
        for _, world in least_worlds(tables, question, values):
            if breaks(promise, world, store_of(others, world)):
                sizes.append(len(world))
    return min(sizes, default=None)
