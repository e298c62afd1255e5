"""The errors of the package: one class for each kind of failure."""


def copied(thing):
    """A copy of any value, new at every depth."""
    if isinstance(thing, list):
        return [copied(item) for item in thing]
    if isinstance(thing, tuple):
        return tuple([copied(item) for item in thing])
    if isinstance(thing, dict):
        return {key: copied(thing[key]) for key in thing}
    return thing


class BuildError(ValueError):
    """The base of all errors of the package, made from a message."""


class BadSchema(BuildError):
    """A schema is refused: name is a class, or None, or the index of a slot in a list of slots."""

    def __init__(self, name):
        super().__init__(f"bad schema: {name!r}")
        self.name = copied(name)


class BadGraph(BuildError):
    """A graph is refused: name is the first object that is wrong, or None."""

    def __init__(self, name):
        super().__init__(f"bad graph: {name!r}")
        self.name = copied(name)


class NoName(BuildError):
    """Nothing has this name: name is the value that was given."""

    def __init__(self, name):
        super().__init__(f"no such name: {name!r}")
        self.name = copied(name)


class NotSound(BuildError):
    """A graph is not sound, made from a message."""


class NoOrder(BuildError):
    """The order that was asked for does not exist, made from a message."""


class BadRoots(BuildError):
    """Roots are refused: index is the place of the first item that is no object."""

    def __init__(self, index):
        super().__init__(f"bad roots, at the index {index!r}")
        self.index = copied(index)


class BadStream(BuildError):
    """A stream is refused: index is the place of its first wrong operation."""

    def __init__(self, index):
        super().__init__(f"bad stream, at the index {index!r}")
        self.index = copied(index)


class BadEdit(BuildError):
    """An edit is refused: at is its place among the edits."""

    def __init__(self, at):
        super().__init__(f"bad edit, at {at!r}")
        self.at = copied(at)


class BadJournal(BuildError):
    """A journal is refused: row is the index of its first wrong row."""

    def __init__(self, row):
        super().__init__(f"bad journal, at the row {row!r}")
        self.row = copied(row)


class BadText(BuildError):
    """A text is refused: row is the index of its first wrong line."""

    def __init__(self, row):
        super().__init__(f"bad text, at the row {row!r}")
        self.row = copied(row)
