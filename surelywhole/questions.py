"""Questions, and promises of what a store has."""

from surelywhole.errors import BadPart, Unbound
from surelywhole.matching import fit, full_match
from surelywhole.steps import is_covered
from surelywhole.terms import ascending, is_term, is_variable, with_ascending


class Question:
    """A head, parts, conditions, and whether answers are counted with duplicates."""

    def __init__(self, schema, head, *parts, among=None, duplicates=False):
        conditions = with_ascending(among)
        check(schema, head, parts, conditions)
        self.schema = schema
        self.head = tuple(head)
        self.parts = parts
        self.among = conditions
        self.duplicates = duplicates

    def __le__(self, other):
        """Return whether every answer is one of the other question in every world that keeps the schema."""
        if not isinstance(other, Question):
            return NotImplemented
        return is_covered(self, other, self.parts, self.head)

    def __and__(self, other):
        """Return the question with the option, a part or a condition."""
        parts = self.parts
        among = dict(self.among)
        if len(other) == 2 and is_variable(other[0]):
            variable, values = other
            kept = self.among.get(variable, values)
            among[variable] = [value for value in values if value in kept]
        elif other not in self.parts:
            parts = (*self.parts, other)
        return Question(self.schema, self.head, *parts, among=among, duplicates=self.duplicates)


class Promise:
    """A part whose rows are surely stored where the partners and the conditions hold."""

    def __init__(self, schema, part, *partners, among=None):
        conditions = with_ascending(among)
        check(schema, (), (part, *partners), conditions)
        self.part = part
        self.partners = partners
        self.among = conditions

    def __eq__(self, other):
        return (
            isinstance(other, Promise)
            and self.part == other.part
            and self.partners == other.partners
            and self.among == other.among
        )

    def match_for(self, row, world):
        """Return a match in the world that turns the part into the row, or None."""
        match = fit(self.part, row, self.among, {})
        return None if match is None else full_match(match, self.partners, world, self.among)

    def says(self, row, world):
        """Return whether a match in the world turns the part into the row."""
        return self.match_for(row, world) is not None

    def kept(self, world, store):
        """Return whether every row that the promise says is in the store."""
        unstored = [row for row in world if row not in store]
        return not any([self.says(row, world) for row in unstored])


def check(schema, head, parts, among):
    """Raise the first error that a question or a promise of these is due."""
    if not parts:
        raise BadPart(())
    for part in parts:
        check_part(schema, part)
    terms = [term for part in parts for term in part[1:]]
    for term in (*head, *ascending(among)):
        if is_variable(term) and term not in terms:
            raise Unbound(term)


def check_part(schema, part):
    """Raise an error if this is not a part of one of the schema's tables."""
    if not part:
        raise BadPart(part)
    width = schema.table(part[0]).width
    if len(part) != width + 1 or not all([is_term(item) for item in part[1:]]):
        raise BadPart(part)
