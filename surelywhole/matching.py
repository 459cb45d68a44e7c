"""Matches of parts with variables in lists of parts."""

from surelywhole.terms import is_variable


def fit(pattern, terms, among, match):
    """Return the match grown so that it turns the pattern into the terms, or None if it cannot."""
    if len(pattern) != len(terms):
        return None
    grown = dict(match)
    for wanted, term in zip(pattern, terms):
        if is_variable(wanted):
            if wanted in among and term not in among[wanted]:
                return None
            grown.setdefault(wanted, term)
        if grown.get(wanted, wanted) != term:
            return None
    return grown


def fits(pattern, parts, among, match):
    """Return the ways in which the match grows to turn the pattern into one of the parts."""
    ways = [fit(pattern, part, among, match) for part in parts]
    return [way for way in ways if way is not None]


def fewest(choices):
    """Return the index of the first of the shortest lists."""
    best = 0
    for at, ways in enumerate(choices):
        if len(ways) < len(choices[best]):
            best = at
    return best


def full_match(match, patterns, parts, among):
    """Return the match grown so that it turns each pattern into one of the parts, or None if it cannot."""
    if not patterns:
        return match
    choices = [fits(pattern, parts, among, match) for pattern in patterns]
    # Where there is the least to try, a match that cannot be is given up the soonest.
    at = fewest(choices)
    rest = patterns[:at] + patterns[at + 1:]
    for way in choices[at]:
        found = full_match(way, rest, parts, among)
        if found is not None:
            return found
    return None


def turned(terms, match):
    """Return what the match turns the terms into."""
    return tuple([match.get(term, term) for term in terms])


def numbers(patterns, parts, match):
    """Return the numbers of the parts into which the match turns the patterns."""
    return tuple([parts.index(turned(pattern, match)) for pattern in patterns])
