"""Script running: statements and expressions, with names by blocks, and limits of steps, depth and sizes."""

from pagestack.calls import FUNCTIONS
from pagestack.errors import RunError, StyleError, TreeError
from pagestack.scriptparse import parse_script
from pagestack.scriptvalues import Function, PageFunction, ScriptList, ScriptTable
from pagestack.scriptvalues import is_true, is_whole, same, told_text

MOST_STEPS = 20000
MOST_DEPTH = 90
CALL_DEPTH = 4
MOST_TEXT = 2000
MOST_FIELDS = 2000
MOST_NUMBER = 999999999999999
# What ends a block before its end: ("break", None) or ("return", value).
BREAK = ("break", None)


class LimitError(RunError):
    """A task has gone on for too long or too deep, which nothing catches."""


class ThrownError(RunError):
    """A script has thrown a value."""

    def __init__(self, value):
        RunError.__init__(self, "thrown")
        self.value = value


class Scope:
    """The names of a block, and the scope around it (None for none)."""

    def __init__(self, around):
        self.names = {}
        self.around = around

    def with_name(self, name):
        """Return the nearest scope that has a name; raise RunError for none."""
        scope = self
        while scope is not None:
            if name in scope.names:
                return scope
            scope = scope.around
        raise RunError("unknown name")


def limited_number(number):
    """Return a number; raise RunError for one of too many digits."""
    if not -MOST_NUMBER <= number <= MOST_NUMBER:
        raise RunError("no number")
    return number


def added(one, other):
    """Return the sum of two numbers, or the joined texts of two values of which one is a text."""
    if not isinstance(one, str) and not isinstance(other, str):
        return reckoned("+", one, other)
    text = told_text(one) + told_text(other)
    if len(text) > MOST_TEXT:
        raise RunError("too long")
    return text


def reckoned(sign, one, other):
    """Return what an operation makes of two numbers."""
    if not is_whole(one) or not is_whole(other):
        raise RunError("no number")
    if sign == "/":
        if other == 0:
            raise RunError("division by zero")
        return limited_number(one // other)
    if sign == "*":
        return limited_number(one * other)
    return limited_number(one + other if sign == "+" else one - other)


def compared(sign, one, other):
    """Return whether two numbers, or two texts, stand as a sign tells."""
    are_texts = isinstance(one, str) and isinstance(other, str)
    if not are_texts and not (is_whole(one) and is_whole(other)):
        raise RunError("no number")
    if sign == "<":
        return one < other
    if sign == "<=":
        return one <= other
    return one > other if sign == ">" else one >= other


def operated(sign, one, other):
    """Return what an operation makes of two values."""
    if sign == "+":
        return added(one, other)
    if sign in ("-", "*", "/"):
        return reckoned(sign, one, other)
    if sign in ("==", "!="):
        return same(one, other) == (sign == "==")
    return compared(sign, one, other)


def item_of(value, place):
    """Return the item of a list or a text at a place, or the field of a table."""
    if isinstance(value, ScriptTable) and isinstance(place, str):
        return value.rows.get(place)
    rows = value.rows if isinstance(value, ScriptList) else value
    if not isinstance(rows, (list, str)) or not is_whole(place) or not 0 <= place < len(rows):
        raise RunError("no such place")
    return rows[place]


def set_item(value, place, worth):
    """Set an item of a list that has the place, or a field of a table."""
    if isinstance(value, ScriptTable) and isinstance(place, str):
        if place not in value.rows and len(value.rows) >= MOST_FIELDS:
            raise RunError("no such place")
    elif not isinstance(value, ScriptList) or not is_whole(place) or not 0 <= place < len(value.rows):
        raise RunError("no such place")
    rows = value.rows
    rows[place] = worth


def gone_through(value):
    """Return what a for goes through: a list as it is now, or a table's names in ascending order."""
    if isinstance(value, ScriptList):
        return list(value.rows)
    if isinstance(value, ScriptTable):
        return sorted(value.rows)
    raise RunError("no list")


def find_value(runner, part, scope):
    """Return a value that is written out."""
    return part[1]


def find_name(runner, part, scope):
    """Return the value of a name."""
    return scope.with_name(part[1]).names[part[1]]


def find_operation(runner, part, scope):
    """Return what an operation makes of its sides; && and || ask the second one only if they need it."""
    one = runner.reckon(part[2], scope)
    if part[1] == "&&":
        return runner.reckon(part[3], scope) if is_true(one) else one
    if part[1] == "||":
        return one if is_true(one) else runner.reckon(part[3], scope)
    return operated(part[1], one, runner.reckon(part[3], scope))


def find_not(runner, part, scope):
    """Return whether a value counts as false."""
    return not is_true(runner.reckon(part[1], scope))


def find_negative(runner, part, scope):
    """Return a number with the other sign."""
    return reckoned("-", 0, runner.reckon(part[1], scope))


def find_call(runner, part, scope):
    """Return what a function answers."""
    function = runner.reckon(part[1], scope)
    return runner.call(function, [runner.reckon(one, scope) for one in part[2]])


def find_item(runner, part, scope):
    """Return an item of a list or a text, or a field of a table."""
    value = runner.reckon(part[1], scope)
    return item_of(value, runner.reckon(part[2], scope))


def find_field(runner, part, scope):
    """Return a field of a table."""
    return item_of(runner.reckon(part[1], scope), part[2])


def make_list(runner, part, scope):
    """Return a new list."""
    return runner.new_list([runner.reckon(one, scope) for one in part[1]])


def make_table(runner, part, scope):
    """Return a new table."""
    rows = {name: runner.reckon(one, scope) for name, one in part[1]}
    return ScriptTable(runner.new_number(), rows)


def make_function(runner, part, scope):
    """Return a new function."""
    return Function(runner.new_number(), part[2], part[3], scope)


EXPRESSIONS = {
    "value": find_value, "name": find_name, "op": find_operation, "not": find_not, "neg": find_negative,
    "call": find_call, "item": find_item, "field": find_field, "list": make_list, "table": make_table,
    "function": make_function,
}


def run_let(runner, part, scope):
    """Make a name."""
    scope.names[part[1]] = runner.reckon(part[2], scope)


def run_set(runner, part, scope):
    """Assign to the nearest name, an item or a field; the parts of the place are reckoned before the value."""
    target = part[1]
    if target[0] == "name":
        worth = runner.reckon(part[2], scope)
        found = scope.with_name(target[1])
        found.names[target[1]] = worth
        return
    value = runner.reckon(target[1], scope)
    place = target[2] if target[0] == "field" else runner.reckon(target[2], scope)
    set_item(value, place, runner.reckon(part[2], scope))


def run_expression(runner, part, scope):
    """Reckon an expression for what it does."""
    runner.reckon(part[1], scope)


def run_if(runner, part, scope):
    """Run one of two blocks."""
    block = part[2] if is_true(runner.reckon(part[1], scope)) else part[3]
    return runner.run_block(block, Scope(scope))


def run_while(runner, part, scope):
    """Run a block as long as a condition holds."""
    while is_true(runner.reckon(part[1], scope)):
        ended = runner.run_block(part[2], Scope(scope))
        if ended is not None:
            return None if ended == BREAK else ended
    return None


def run_for(runner, part, scope):
    """Run a block for each part of a list, or each name of a table."""
    for one in gone_through(runner.reckon(part[2], scope)):
        inner = Scope(scope)
        inner.names[part[1]] = one
        ended = runner.run_block(part[3], inner)
        if ended is not None:
            return None if ended == BREAK else ended
    return None


def run_return(runner, part, scope):
    """Let the function around answer a value."""
    return ("return", runner.reckon(part[1], scope))


def run_break(runner, part, scope):
    """End the loop around."""
    return BREAK


def run_throw(runner, part, scope):
    """Throw a value."""
    raise ThrownError(runner.reckon(part[1], scope))


def run_try(runner, part, scope):
    """Run a block, and another one if something is thrown or cannot be done in it."""
    depth = runner.depth
    try:
        return runner.run_block(part[1], Scope(scope))
    except LimitError:
        raise
    except ThrownError as thrown:
        caught = thrown.value
    except RunError as fault:
        caught = fault.word
    runner.depth = depth
    inner = Scope(scope)
    inner.names[part[2]] = caught
    return runner.run_block(part[3], inner)


def run_function(runner, part, scope):
    """Do nothing: the function is known from the beginning of its block on."""
    return None


STATEMENTS = {
    "let": run_let, "set": run_set, "do": run_expression, "if": run_if, "while": run_while, "for": run_for,
    "return": run_return, "break": run_break, "throw": run_throw, "try": run_try, "function": run_function,
}


class Runner:
    """What runs scripts: the calls of a page, the names that all scripts share, and a task's steps and depth."""

    def __init__(self, calls):
        self.calls = calls
        self.shared = Scope(None)
        self.steps = 0
        self.depth = 0
        self.made = 0
        for name, least, most in FUNCTIONS:
            self.shared.names[name] = PageFunction(name, least, most)

    def begin_task(self):
        """Count steps and depth anew."""
        self.steps = 0
        self.depth = 0

    def new_number(self):
        """Return a number that no other list, table or function has."""
        self.made += 1
        return self.made

    def new_list(self, rows):
        """Return a new list."""
        return ScriptList(self.new_number(), rows)

    def enter(self, parts):
        """Count a step that stands so many parts further within; raise LimitError for too many."""
        self.steps += 1
        self.depth += parts
        if self.steps > MOST_STEPS:
            raise LimitError("too many steps")
        if self.depth > MOST_DEPTH:
            raise LimitError("too deep")

    def reckon(self, part, scope):
        """Return the value of an expression."""
        self.enter(1)
        action = EXPRESSIONS[part[0]]
        found = action(self, part, scope)
        self.depth -= 1
        return found

    def run_block(self, block, scope):
        """Run statements in a scope of their own; return what ended them early, None for nothing."""
        for part in block:
            if part[0] == "function":
                scope.names[part[1]] = make_function(self, part, scope)
        for part in block:
            self.enter(1)
            action = STATEMENTS[part[0]]
            ended = action(self, part, scope)
            self.depth -= 1
            if ended is not None:
                return ended
        return None

    def run_script(self, text):
        """Run a script with the names that all scripts share; raise ScriptError or RunError."""
        self.run_block(parse_script(text), self.shared)

    def call(self, function, arguments):
        """Return what a function of scripts or of the page answers; raise RunError."""
        if isinstance(function, PageFunction):
            return self.call_page(function, arguments)
        if not isinstance(function, Function):
            raise RunError("no function")
        scope = Scope(function.scope)
        for place, name in enumerate(function.names):
            scope.names[name] = arguments[place] if place < len(arguments) else None
        self.enter(CALL_DEPTH)
        ended = self.run_block(function.body, scope)
        self.depth -= CALL_DEPTH
        return ended[1] if ended is not None else None

    def call_page(self, function, arguments):
        """Return what the page answers."""
        if not function.least <= len(arguments) <= function.most:
            raise RunError("other arguments")
        try:
            return self.calls.do(function.name, arguments)
        except TreeError as fault:
            raise RunError(str(fault)) from None
        except StyleError as trouble:
            raise RunError(str(trouble)) from None
