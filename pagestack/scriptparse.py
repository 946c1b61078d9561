"""Script parsing: tokens to statements and expressions.

Statements: ("let", name, a), ("set", target, a), ("do", a), ("if", a, block, block), ("while", a, block),
("for", name, a, block), ("return", a), ("break",), ("throw", a), ("try", block, name, block) and
("function", name, names, block). Expressions: ("value", v), ("name", name), ("op", sign, a, b), ("not", a), ("neg", a),
("call", a, (a, ..)), ("item", a, a), ("field", a, name), ("list", (a, ..)), ("table", ((name, a), ..)) and
("function", None, names, block).
"""

from pagestack.errors import ScriptError
from pagestack.scriptwords import tokens_of

MOST_OPEN = 40
MOST_BEHIND = 40
# The greater the level, the closer an operation binds.
LEVELS = {
    "||": 1, "&&": 2, "==": 3, "!=": 3, "<": 4, "<=": 4, ">": 4, ">=": 4, "+": 5, "-": 5, "*": 6, "/": 6,
}
LOOSEST = 1
# Operations of these levels do not follow each other.
ALONE = (3, 4)
BEFORE = {"!": "not", "-": "neg"}
VALUES = {"null": None, "true": True, "false": False}
PLACES = ("name", "item", "field")


class ScriptReader:
    """Tokens, a place in them, and how many parts are open."""

    def __init__(self, text):
        self.tokens = tokens_of(text)
        self.place = 0
        self.nested = 0

    def token(self):
        """Return the token at the place, which is the end from there on."""
        return self.tokens[min(self.place, len(self.tokens) - 1)]

    def here(self):
        """Return the class of the token at the place."""
        return self.token().kind

    def take(self, kind):
        """Move past a token of a class and return its value; raise ScriptError for another one."""
        if self.here() != kind:
            raise ScriptError("expected " + kind)
        worth = self.token().value
        self.place += 1
        return worth

    def begin_part(self):
        """Count a part that is open from now on; raise ScriptError for too many within each other."""
        self.nested += 1
        if self.nested > MOST_OPEN:
            raise ScriptError("too many open parts")

    def end_part(self):
        """Count a part no longer as open."""
        self.nested -= 1


def read_rows(reader, begin, end, read_one):
    """Move past rows parted by commas between two signs and return them."""
    reader.take(begin)
    reader.begin_part()
    rows = []
    if reader.here() != end:
        rows.append(read_one(reader))
        while reader.here() == ",":
            reader.take(",")
            rows.append(read_one(reader))
    reader.take(end)
    reader.end_part()
    return tuple(rows)


def need_different(names):
    """Raise ScriptError for a name that is told twice."""
    if len({name: True for name in names}) != len(names):
        raise ScriptError("a name is told twice")


def read_field(reader):
    """Move past a name and an expression of a table; the name may be a text."""
    name = reader.take("text" if reader.here() == "text" else "name")
    reader.take(":")
    return (name, read_expression(reader, LOOSEST))


def read_argument(reader):
    """Move past an expression in a row of them."""
    return read_expression(reader, LOOSEST)


def read_bracket(reader):
    """Move past an expression in brackets."""
    reader.take("(")
    reader.begin_part()
    found = read_expression(reader, LOOSEST)
    reader.take(")")
    reader.end_part()
    return found


def read_list(reader):
    """Move past a list."""
    return ("list", read_rows(reader, "[", "]", read_argument))


def read_table(reader):
    """Move past a table."""
    rows = read_rows(reader, "{", "}", read_field)
    need_different([name for name, _ in rows])
    return ("table", rows)


def read_function(reader):
    """Move past a function without a name."""
    reader.take("function")
    return ("function", None, read_names(reader), read_block(reader))


def read_names(reader):
    """Move past the parameters of a function in brackets and return them."""
    reader.take("(")
    names = []
    if reader.here() != ")":
        names.append(reader.take("name"))
        while reader.here() == ",":
            reader.take(",")
            names.append(reader.take("name"))
    reader.take(")")
    need_different(names)
    return tuple(names)


OPENERS = {"(": read_bracket, "[": read_list, "{": read_table, "function": read_function}


def read_first(reader):
    """Move past an expression without operations and without what may stand behind it."""
    kind = reader.here()
    if kind in OPENERS:
        action = OPENERS[kind]
        return action(reader)
    if kind in ("number", "text"):
        return ("value", reader.take(kind))
    if kind in VALUES:
        reader.take(kind)
        return ("value", VALUES[kind])
    return ("name", reader.take("name"))


def read_call(reader, found):
    """Move past the arguments of a call of what was found."""
    return ("call", found, read_rows(reader, "(", ")", read_argument))


def read_item(reader, found):
    """Move past the place of an item of what was found."""
    reader.take("[")
    reader.begin_part()
    place = read_expression(reader, LOOSEST)
    reader.take("]")
    reader.end_part()
    return ("item", found, place)


def read_name_of_field(reader, found):
    """Move past the name of a field of what was found."""
    reader.take(".")
    return ("field", found, reader.take("name"))


SUFFIXES = {"(": read_call, "[": read_item, ".": read_name_of_field}


def read_suffixes(reader):
    """Move past an expression with all calls, items and fields behind it."""
    found = read_first(reader)
    many = 0
    while reader.here() in SUFFIXES:
        many += 1
        if many > MOST_BEHIND:
            raise ScriptError("too many suffixes")
        action = SUFFIXES[reader.here()]
        found = action(reader, found)
    return found


def read_before(reader):
    """Move past an expression with all ! and - before it."""
    kind = reader.here()
    if kind not in BEFORE:
        return read_suffixes(reader)
    reader.take(kind)
    reader.begin_part()
    found = (BEFORE[kind], read_before(reader))
    reader.end_part()
    return found


def read_expression(reader, loosest):
    """Move past an expression of operations that bind at least as close as a level."""
    found = read_before(reader)
    before = 0
    many = 0
    level = LEVELS.get(reader.here(), 0)
    while level >= loosest:
        # A looser operation never comes before a closer one here: that one is read as its right side.
        many = many + 1 if level == before else 1
        if many > MOST_BEHIND or (many > 1 and level in ALONE):
            raise ScriptError("too many operations")
        sign = reader.take(reader.here())
        found = ("op", sign, found, read_expression(reader, level + 1))
        before = level
        level = LEVELS.get(reader.here(), 0)
    return found


def read_block(reader):
    """Move past a block in braces and return its statements."""
    reader.take("{")
    reader.begin_part()
    found = []
    while reader.here() != "}":
        found.append(read_statement(reader))
    reader.take("}")
    reader.end_part()
    return tuple(found)


def read_condition(reader):
    """Move past an expression in brackets that belong to the statement."""
    reader.take("(")
    found = read_expression(reader, LOOSEST)
    reader.take(")")
    return found


def read_let(reader):
    """Move past a let."""
    reader.take("let")
    name = reader.take("name")
    reader.take("=")
    found = ("let", name, read_expression(reader, LOOSEST))
    reader.take(";")
    return found


def read_if(reader):
    """Move past an if; an else if is one if in the block of else."""
    reader.take("if")
    reader.begin_part()
    found = read_condition(reader)
    block = read_block(reader)
    other = ()
    if reader.here() == "else":
        reader.take("else")
        other = (read_if(reader),) if reader.here() == "if" else read_block(reader)
    reader.end_part()
    return ("if", found, block, other)


def read_while(reader):
    """Move past a while."""
    reader.take("while")
    found = read_condition(reader)
    return ("while", found, read_block(reader))


def read_in(reader):
    """Move past the word between the name of a for and what it goes through."""
    if reader.here() == "name" and reader.token().value == "of":
        reader.take("name")
    else:
        reader.take("in")


def read_for(reader):
    """Move past a for: a name, perhaps behind let, and what it goes through."""
    reader.take("for")
    # What it goes through needs brackets; that the name stands outside of them is not excluded.
    is_within = reader.here() == "("
    if is_within:
        reader.take("(")
    if reader.here() == "let":
        reader.take("let")
    name = reader.take("name")
    read_in(reader)
    if not is_within:
        reader.take("(")
    found = read_expression(reader, LOOSEST)
    reader.take(")")
    return ("for", name, found, read_block(reader))


def read_return(reader):
    """Move past a return, which gives null if nothing is told."""
    reader.take("return")
    found = ("value", None) if reader.here() == ";" else read_expression(reader, LOOSEST)
    reader.take(";")
    return ("return", found)


def read_break(reader):
    """Move past a break."""
    reader.take("break")
    reader.take(";")
    return ("break",)


def read_throw(reader):
    """Move past a throw."""
    reader.take("throw")
    found = read_expression(reader, LOOSEST)
    reader.take(";")
    return ("throw", found)


def read_try(reader):
    """Move past a try and its catch."""
    reader.take("try")
    block = read_block(reader)
    reader.take("catch")
    reader.take("(")
    name = reader.take("name")
    reader.take(")")
    return ("try", block, name, read_block(reader))


def read_named_function(reader):
    """Move past a function with a name."""
    reader.take("function")
    name = reader.take("name")
    names = read_names(reader)
    return ("function", name, names, read_block(reader))


def read_plain(reader):
    """Move past an assignment, or an expression that stands alone."""
    found = read_expression(reader, LOOSEST)
    if reader.here() != "=":
        reader.take(";")
        return ("do", found)
    if found[0] not in PLACES:
        raise ScriptError("no place to assign to")
    reader.take("=")
    worth = read_expression(reader, LOOSEST)
    reader.take(";")
    return ("set", found, worth)


STATEMENTS = {
    "let": read_let, "if": read_if, "while": read_while, "for": read_for, "return": read_return,
    "break": read_break, "throw": read_throw, "try": read_try, "function": read_named_function,
}


def read_statement(reader):
    """Move past a statement."""
    kind = reader.here()
    if kind not in STATEMENTS:
        return read_plain(reader)
    action = STATEMENTS[kind]
    return action(reader)


def parse_script(text):
    """Return the statements of a script; raise ScriptError."""
    reader = ScriptReader(text)
    found = []
    while reader.here() != "end":
        found.append(read_statement(reader))
    return tuple(found)


def is_statement(text):
    """Return True if a text is a script."""
    try:
        parse_script(text)
    except ScriptError:
        return False
    return True
