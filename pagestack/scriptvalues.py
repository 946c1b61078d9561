"""Values of scripts: None, truths, whole numbers, texts, lists, tables, functions, elements and events."""

from pagestack.nodes import Node

MOST_TOLD = 300
MOST_DEEP = 5
LEFT_OUT = ".."


class Function:
    """A function of scripts: its number, names, a block, and the scope in which it was made."""

    def __init__(self, number, names, body, scope):
        self.number = number
        self.names = tuple(names)
        self.body = body
        self.scope = scope


class ScriptList:
    """A list of scripts: its number and its rows."""

    def __init__(self, number, rows):
        self.number = number
        self.rows = rows


class ScriptTable:
    """A table of scripts: its number and its rows by name."""

    def __init__(self, number, rows):
        self.number = number
        self.rows = rows


class PageFunction:
    """A function of the page: its name, and how many arguments it needs at least and at most."""

    def __init__(self, name, least, most):
        self.name = name
        self.least = least
        self.most = most


def is_whole(value):
    """Return True for a number; truths are none."""
    return isinstance(value, int) and not isinstance(value, bool)


def is_element(value):
    """Return True for an element of a tree."""
    return isinstance(value, Node) and not value.is_text()


def is_function(value):
    """Return True for a function of scripts or of the page."""
    return isinstance(value, (Function, PageFunction))


def is_true(value):
    """Return True for what counts as true: not null, false, 0, and empty texts and lists."""
    if value is None or isinstance(value, (bool, int, str)):
        return bool(value)
    return not isinstance(value, ScriptList) or value.rows != []


def kind_of(value):
    """Return the word for what a value is."""
    if value is None:
        return "null"
    if isinstance(value, bool):
        return "truth"
    if isinstance(value, str):
        return "text"
    if is_whole(value):
        return "number"
    if isinstance(value, ScriptList):
        return "list"
    if isinstance(value, ScriptTable):
        return "table"
    if is_element(value):
        return "element"
    return "function" if is_function(value) else "thing"


def same(one, other):
    """Return True for equal values of one class, and for the same list, table, function or element."""
    # Without the classes 1 would be equal to true.
    return kind_of(one) == kind_of(other) and one == other


def short_text(value):
    """Return the text of a value that is never left out for standing too deep, None for others."""
    if value is None:
        return "null"
    if isinstance(value, bool):
        return "true" if value else "false"
    if is_whole(value):
        return str(value)
    if isinstance(value, str):
        return value
    if is_element(value):
        return "<" + value.tag + ">"
    return "function" if is_function(value) else None


class Teller:
    """How many parts of a value have been told."""

    def __init__(self):
        self.many = 0

    def tell(self, value, depth):
        """Return the text of a value with so many lists and tables around it."""
        self.many += 1
        if self.many > MOST_TOLD:
            return LEFT_OUT
        text = short_text(value)
        if text is not None:
            return text
        if depth > MOST_DEEP:
            return LEFT_OUT
        if isinstance(value, ScriptList):
            return "[" + ", ".join([self.tell(row, depth + 1) for row in value.rows]) + "]"
        if isinstance(value, ScriptTable):
            return "{" + ", ".join(self.told_fields(value, depth + 1)) + "}"
        return "thing"

    def told_fields(self, table, depth):
        """Return the texts of a table's fields by names."""
        return [name + ": " + self.tell(table.rows[name], depth) for name in sorted(table.rows)]


def told_text(value):
    """Return the text of a value."""
    return Teller().tell(value, 0)
