"""The errors of the program."""


class WholeError(ValueError):
    """The base of all errors of the program."""


class UnknownTable(WholeError):
    """A name that no table of the schema has."""

    def __init__(self, name):
        super().__init__(f"no table is called {name}")
        self.name = name


class Ring(WholeError):
    """A table that reaches itself by its references."""

    def __init__(self, name):
        super().__init__(f"the table {name} reaches itself")
        self.name = name


class BadPart(WholeError):
    """A part that does not fit its table, or the lack of any part."""

    def __init__(self, part):
        super().__init__(f"not a part: {part}")
        self.part = part


class Unbound(WholeError):
    """A variable that is in no part."""

    def __init__(self, variable):
        super().__init__(f"the variable {variable} is in no part")
        self.variable = variable


class Clash(WholeError):
    """A row that its table cannot have beside the rows before it."""

    def __init__(self, row):
        super().__init__(f"the table cannot have the row {row}")
        self.row = row


class NoPromise(WholeError):
    """A promise that is not in the book."""

    def __init__(self, promise):
        super().__init__("the book has no such promise")
        self.promise = promise


class MayLack(WholeError):
    """A row that the store may lack."""

    def __init__(self, row):
        super().__init__(f"the store may lack the row {row}")
        self.row = row


class NotWhole(WholeError):
    """A question that is not whole, with a pair that shows it."""

    def __init__(self, pair):
        super().__init__("the question is not whole")
        self.pair = pair
