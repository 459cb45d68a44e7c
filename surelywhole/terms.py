"""Terms, and dicts from columns or variables to values."""

SIGNS = "abcdefghijklmnopqrstuvwxyz0123456789"
LONGEST = 8


def is_variable(term):
    """Return whether the term is a variable and no value."""
    return term.startswith("?")


def is_term(item):
    """Return whether the item is a value or a variable."""
    if not isinstance(item, str):
        return False
    text = item.removeprefix("?")
    return 1 <= len(text) <= LONGEST and all([sign in SIGNS for sign in text])


def replaced(terms, variable, term):
    """Return the terms as a tuple with the term instead of the variable."""
    return tuple([term if item == variable else item for item in terms])


def ascending(words):
    """Return the words as an ascending tuple, equal ones once."""
    once = {word: True for word in words}
    return tuple(sorted([str(word) for word in once]))


def with_ascending(values):
    """Return a copy of a dict of values (or of None) with ascending tuples."""
    if values is None:
        return {}
    return {at: ascending(values[at]) for at in values}
