"""Tables, and the schema that a world keeps."""

from surelywhole.errors import Ring, UnknownTable
from surelywhole.terms import is_variable, with_ascending


class Table:
    """A table: its name, its width, its key, its lists and its references."""

    def __init__(self, name, width, *, key=(), lists=None, refers=()):
        columns = {column: True for column in key}
        self.name = name
        self.width = width
        self.key = tuple(sorted([int(column) for column in columns]))
        self.lists = with_ascending(lists)
        self.refers = tuple(refers)

    def agree(self, part, other):
        """Return whether this table's part and the other part agree."""
        if not self.key or part[0] != other[0]:
            return False
        return all([part[column + 1] == other[column + 1] for column in self.key])

    def is_off_list(self, part):
        """Return whether this table's part has a value that is not on its column's list."""
        listed = [(part[column + 1], self.lists[column]) for column in self.lists]
        return any([not is_variable(term) and term not in values for term, values in listed])


class Schema:
    """Tables with different names, none of which reaches itself."""

    def __init__(self, *tables):
        self.named = {table.name: table for table in tables}
        names = [reference[1] for table in tables for reference in table.refers]
        for name in names:
            if name not in self.named:
                raise UnknownTable(name)
        for table in tables:
            if table.name in self.reached(table.name):
                raise Ring(table.name)

    def table(self, name):
        """Return the table of this name."""
        if name not in self.named:
            raise UnknownTable(name)
        return self.named[name]

    def reached(self, name):
        """Return the names of the tables that the named table reaches."""
        found = []
        waiting = [name]
        while waiting:
            here = waiting.pop()
            for reference in self.named[here].refers:
                if reference[1] not in found:
                    found.append(reference[1])
                    waiting.append(reference[1])
        return found

    def has_off_list(self, parts):
        """Return whether one of the parts has a value that is not on its column's list."""
        return any([self.table(part[0]).is_off_list(part) for part in parts])

    def differences(self, parts):
        """Return (i, j, column) wherever parts i and j agree but differ in the column."""
        pairs = [(i, j) for j in range(len(parts)) for i in range(j)]
        agreeing = [(i, j) for i, j in pairs if self.table(parts[i][0]).agree(parts[i], parts[j])]
        return [
            (i, j, column)
            for i, j in agreeing
            for column in range(len(parts[i]) - 1)
            if parts[i][column + 1] != parts[j][column + 1]
        ]

    def lacking(self, parts):
        """Return (i, k) wherever no part is the one to which the reference k of part i leads."""
        led = [
            (i, k, reference)
            for i, part in enumerate(parts)
            for k, reference in enumerate(self.table(part[0]).refers)
        ]
        return [(i, k) for i, k, reference in led if not leads(reference, parts[i], parts)]

    def holds(self, world):
        """Return whether the world keeps the schema."""
        return not (self.has_off_list(world) or self.differences(world) or self.lacking(world))


def leads(reference, part, parts):
    """Return whether the reference leads from the part to one of the parts."""
    column, name, other = reference
    wanted = part[column + 1]
    return any([target[0] == name and target[other + 1] == wanted for target in parts])
