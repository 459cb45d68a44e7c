"""The answers of a question in a list of rows."""

from surelywhole.matching import fits, turned
from surelywhole.terms import is_variable, once


def answers_in(question, rows):
    """Return the question's answers in these different rows, in ascending order."""
    known = []
    counts = {(): 1}
    for at, part in enumerate(question.parts):
        later = [term for words in (question.head, *question.parts[at + 1:]) for term in words]
        # Matches that differ only in variables that nothing asks for again are counted as one.
        kept = once([term for term in (*known, *part) if is_variable(term) and term in later])
        counts = joined(counts, known, part, rows, question.among, kept)
        known = kept
    heads = {turned(question.head, dict(zip(known, terms))): counts[terms] for terms in counts}
    return [
        head
        for head in sorted(list(heads), key=str)
        for _ in range(heads[head] if question.duplicates else 1)
    ]


def joined(counts, known, part, rows, among, kept):
    """Return how many matches there are, with this part too, for each choice of the kept variables."""
    grown = {}
    for terms in counts:
        for way in fits(part, rows, among, dict(zip(known, terms))):
            words = tuple([way[variable] for variable in kept])
            grown[words] = grown.get(words, 0) + counts[terms]
    return grown
