"""Calls: what scripts may ask of their page: (name, fewest arguments, most arguments)."""

from pagestack.errors import RunError
from pagestack.events import Event
from pagestack.markup import TAG_SIGNS
from pagestack.scriptvalues import Function, ScriptList, ScriptTable
from pagestack.scriptvalues import is_element, is_whole, kind_of, same, told_text
from pagestack.selectors import find_all
from pagestack.texts import is_digits

FUNCTIONS = (
    ("find", 1, 1), ("all", 1, 1), ("make", 1, 1), ("text", 1, 1), ("setText", 2, 2), ("get", 2, 2), ("set", 3, 3),
    ("append", 2, 2), ("before", 2, 2), ("remove", 1, 1), ("parent", 1, 1), ("children", 1, 1), ("tag", 1, 1),
    ("value", 1, 1), ("setValue", 2, 2), ("on", 3, 4), ("off", 3, 4), ("once", 3, 4), ("stop", 1, 1),
    ("stopNow", 1, 1), ("refuse", 1, 1), ("target", 1, 1), ("current", 1, 1), ("phase", 1, 1), ("detail", 1, 1),
    ("send", 2, 3), ("later", 2, 2), ("cancel", 1, 1), ("soon", 1, 1), ("print", 1, 1), ("len", 1, 1),
    ("push", 2, 2), ("keys", 1, 1), ("str", 1, 1), ("num", 1, 1), ("go", 1, 1), ("box", 1, 1), ("kind", 1, 1),
)
EVENT_PARTS = ("stop", "stopNow", "refuse", "target", "current", "phase", "detail")
MOST_DIGITS = 15
MOST_TEXT = 2000
MOST_ROWS = 2000
MOST_TICKS = 99999
MOST_NAME = 20


def text_in(value):
    """Return a value that is a text; raise RunError for others."""
    if not isinstance(value, str):
        raise RunError("no text")
    return value


def element_in(value):
    """Return a value that is an element; raise RunError for others."""
    if not is_element(value):
        raise RunError("no element")
    return value


def function_in(value):
    """Return a value that is a function of scripts; raise RunError for others."""
    if not isinstance(value, Function):
        raise RunError("no function")
    return value


def number_of(text):
    """Return the number of a text, None if it is none of at most 15 digits."""
    return int(text) if is_digits(text.removeprefix("-"), MOST_DIGITS) else None


def event_part(name, event):
    """Return a part of an event, or stop or refuse it."""
    if not isinstance(event, Event):
        raise RunError("no event")
    if name == "target":
        return event.target
    if name == "current":
        return event.current
    if name == "phase":
        return event.phase
    if name == "detail":
        return event.detail
    if name == "stop":
        event.stopped = True
    elif name == "stopNow":
        event.stopped_now = True
    else:
        event.refused = True
    return None


def good_tag(value):
    """Return a text of small letters, digits and "-" that a tag or an attribute may be called; raise RunError."""
    text = text_in(value)
    if text == "" or len(text) > MOST_NAME or any(sign not in TAG_SIGNS for sign in text):
        raise RunError("no name")
    return text


def call_find(page, arguments):
    """Return the first element of an id, or null."""
    return page.document.by_id(text_in(arguments[0]))


def call_all(page, arguments):
    """Return the elements that selectors fit."""
    return page.runner.new_list(find_all(page.document.root, text_in(arguments[0])))


def call_make(page, arguments):
    """Return a new element."""
    return page.document.make(good_tag(arguments[0]))


def call_text(page, arguments):
    """Return the texts of an element."""
    return element_in(arguments[0]).content()[:MOST_TEXT]


def call_set_text(page, arguments):
    """Let an element have the text of a value."""
    page.document.set_text(element_in(arguments[0]), told_text(arguments[1]))


def call_get(page, arguments):
    """Return an attribute, or null."""
    return element_in(arguments[0]).attribute(good_tag(arguments[1]))


def call_set(page, arguments):
    """Set an attribute to the text of a value; null drops it."""
    node = element_in(arguments[0])
    name = good_tag(arguments[1])
    page.document.set_attribute(node, name, None if arguments[2] is None else told_text(arguments[2]))


def call_append(page, arguments):
    """Make an element the last child of another one."""
    page.document.append(element_in(arguments[0]), element_in(arguments[1]))


def call_before(page, arguments):
    """Place an element just before another one."""
    node = element_in(arguments[0])
    other = element_in(arguments[1])
    if other.parent is None:
        raise RunError("no parent")
    page.document.place_before(other.parent, node, other.parent.children.index(other))


def call_remove(page, arguments):
    """Take an element out of its parent."""
    page.document.remove(element_in(arguments[0]))


def call_parent(page, arguments):
    """Return the parent of an element, or null."""
    return element_in(arguments[0]).parent


def call_children(page, arguments):
    """Return the children of an element that are elements."""
    return page.runner.new_list(element_in(arguments[0]).element_children())


def call_tag(page, arguments):
    """Return the tag of an element."""
    return element_in(arguments[0]).tag


def call_value(page, arguments):
    """Return the value of an element."""
    return element_in(arguments[0]).value


def call_set_value(page, arguments):
    """Let an element have the text of a value as its value."""
    node = element_in(arguments[0])
    node.value = told_text(arguments[1])


def is_capturing(arguments):
    """Return True if the arguments of on, off or once tell that the listener captures."""
    return len(arguments) > 3 and arguments[3] is True


def listener_in(arguments):
    """Return (element's number, kind, function) of the arguments of on and once; raise RunError."""
    number = element_in(arguments[0]).number
    return (number, text_in(arguments[1]), function_in(arguments[2]))


def call_on(page, arguments):
    """Add a listener; return whether it was added."""
    number, kind, function = listener_in(arguments)
    return page.listeners.add(number, kind, function, is_capturing(arguments))


def call_once(page, arguments):
    """Add a listener that is called once; return whether it was added."""
    number, kind, function = listener_in(arguments)
    return page.listeners.add(number, kind, function, is_capturing(arguments), True)


def call_off(page, arguments):
    """Drop a listener, whatever it is; return whether it was there."""
    number = element_in(arguments[0]).number
    return page.listeners.remove(number, text_in(arguments[1]), arguments[2], is_capturing(arguments))


def call_send(page, arguments):
    """Send an event within the task; return whether it was not refused."""
    node = element_in(arguments[0])
    kind = text_in(arguments[1])
    return page.send(Event(kind, node, arguments[2] if len(arguments) > 2 else ""))


def call_later(page, arguments):
    """Make a timer; return its number."""
    function = function_in(arguments[0])
    ticks = arguments[1]
    if not is_whole(ticks) or not 0 <= ticks <= MOST_TICKS:
        raise RunError("no time")
    return page.add_timer(function, ticks)


def call_cancel(page, arguments):
    """Drop a timer; return whether there was one."""
    kept = [timer for timer in page.timers if not same(timer[1], arguments[0])]
    was_there = len(kept) < len(page.timers)
    page.timers = kept
    return was_there


def call_soon(page, arguments):
    """Put a function off until the task has ended."""
    page.put_off.append(function_in(arguments[0]))


def call_print(page, arguments):
    """Print the text of a value."""
    page.printed.append(told_text(arguments[0]))


def call_len(page, arguments):
    """Return how many parts a list, a table or a text has."""
    if isinstance(arguments[0], str):
        return len(arguments[0])
    if not isinstance(arguments[0], (ScriptList, ScriptTable)):
        raise RunError("no list")
    return len(arguments[0].rows)


def call_push(page, arguments):
    """Put a value at the end of a list; return how many it has then."""
    if not isinstance(arguments[0], ScriptList) or len(arguments[0].rows) >= MOST_ROWS:
        raise RunError("no list")
    arguments[0].rows.append(arguments[1])
    return len(arguments[0].rows)


def call_keys(page, arguments):
    """Return the names of a table, ascending."""
    if not isinstance(arguments[0], ScriptTable):
        raise RunError("no list")
    return page.runner.new_list(sorted(arguments[0].rows))


def call_str(page, arguments):
    """Return the text of a value."""
    return told_text(arguments[0])[:MOST_TEXT]


def call_num(page, arguments):
    """Return the number of a text, or null."""
    return number_of(text_in(arguments[0]))


def call_go(page, arguments):
    """Let the page want an address."""
    page.wanted = text_in(arguments[0])


def call_box(page, arguments):
    """Return [left, top, width, height] of an element's box, or null."""
    box = page.box_of(element_in(arguments[0]))
    return None if box is None else page.runner.new_list([box.left, box.top, box.width, box.height])


def call_kind(page, arguments):
    """Return the word for what a value is."""
    return kind_of(arguments[0])


ACTIONS = {
    "find": call_find, "all": call_all, "make": call_make, "text": call_text, "setText": call_set_text,
    "get": call_get, "set": call_set, "append": call_append, "before": call_before, "remove": call_remove,
    "parent": call_parent, "children": call_children, "tag": call_tag, "value": call_value,
    "setValue": call_set_value, "on": call_on, "off": call_off, "once": call_once, "send": call_send,
    "later": call_later, "cancel": call_cancel, "soon": call_soon, "print": call_print, "len": call_len,
    "push": call_push, "keys": call_keys, "str": call_str, "num": call_num, "go": call_go, "box": call_box,
    "kind": call_kind,
}


class Calls:
    """A page whose scripts ask."""

    def __init__(self, page):
        self.page = page

    def do(self, name, arguments):
        """Do what a script asks of the page, and return the answer; raise RunError, TreeError or StyleError."""
        if name in EVENT_PARTS:
            return event_part(name, arguments[0])
        if name not in ACTIONS:
            raise RunError("no function")
        action = ACTIONS[name]
        return action(self.page, arguments)
