"""Terms, and dicts from columns or variables to values."""

SIGNS = "abcdefghijklmnopqrstuvwxyz0123456789"
LONGEST = 8


def is_variable(term):
    """Return whether the term is a variable and no value."""
    return term.startswith("?")


def is_term(item):
    """Return whether the item is a value or a variable."""
    if not isinstance(item, str):
        return False
    text = item.removeprefix("?")
    return 1 <= len(text) <= LONGEST and all([sign in SIGNS for sign in text])


def replaced(terms, variable, term):
    """Return the terms as a tuple with the term instead of the variable."""
    return tuple([term if item == variable else item for item in terms])


def once(things):
    """Return the strings, numbers or tuples in a list, equal ones once."""
    return list({thing: True for thing in things})


def ascending(words):
    """Return the words as an ascending tuple, equal ones once."""
    return tuple(sorted([str(word) for word in once(words)]))


def with_ascending(values):
    """Return a copy of a dict of values (or of None) with ascending tuples."""
    if values is None:
        return {}
    return {at: ascending(values[at]) for at in values}


def unused(prefix, many, words):
    """Return different words that begin with the prefix and are in none of the lists of words."""
    taken = {word: True for some in words for word in some}
    found = []
    number = 0
    while len(found) < many:
        word = f"{prefix}{number}"
        if word not in taken:
            found.append(word)
        number += 1
    return found
