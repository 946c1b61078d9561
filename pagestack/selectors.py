"""Selectors: which elements a rule is for, and how special it is."""

from pagestack.errors import StyleError
from pagestack.texts import BLANKS, after_run

NAME_SIGNS = "abcdefghijklmnopqrstuvwxyz0123456789-_"
STATES = ("first-child", "last-child", "checked", "empty")
MOST_PARTS = 13


class Simple:
    """A tag (None for any), an id (None for any), classes, attributes as (name, value or None), and states."""

    def __init__(self, tag, name, classes, attributes, states):
        self.tag = tag
        self.name = name
        self.classes = tuple(classes)
        self.attributes = tuple(attributes)
        self.states = tuple(states)

    def fits(self, node):
        """Return True if an element has all that is told."""
        if node.is_text() or self.tag not in (None, node.tag):
            return False
        if self.name is not None and node.attribute("id") != self.name:
            return False
        words = node.class_words()
        if any(name not in words for name in self.classes):
            return False
        if not all(has_attribute(node, name, value) for name, value in self.attributes):
            return False
        return all(has_state(node, state) for state in self.states)

    def weight(self):
        """Return (ids, classes with attributes and states, tags)."""
        ids = 0 if self.name is None else 1
        tags = 0 if self.tag is None else 1
        return (ids, len(self.classes) + len(self.attributes) + len(self.states), tags)

    def shown(self):
        """Return (tag, id, classes, attributes, states)."""
        return (self.tag, self.name, self.classes, self.attributes, self.states)


def has_attribute(node, name, value):
    """Return True if an element has an attribute, by any value for None."""
    told = node.attribute(name)
    return told is not None and value in (None, told)


def has_state(node, state):
    """Return True if an element is the first or last element of its parent, checked, or empty."""
    if state == "checked":
        return node.checked
    if state == "empty":
        return node.children == []
    if node.parent is None:
        return False
    row = node.parent.element_children()
    return node == (row[0] if state == "first-child" else row[-1])


class Selector:
    """Simple selectors with signs between: " " for below, ">" for a child, "+" for the next element."""

    def __init__(self, first, rows):
        self.first = first
        self.rows = tuple(rows)

    def fits(self, node):
        """Return True if an element is the last simple selector's, and the others' stand as the signs tell."""
        parts = self.parts()
        if not parts[-1].fits(node):
            return False
        # All nodes that a part can stand for are kept, so that no way is missed.
        nodes = [node]
        for place in range(len(self.rows) - 1, -1, -1):
            sign = self.rows[place][0]
            nodes = [other for other in nodes_by(sign, nodes) if parts[place].fits(other)]
        return nodes != []

    def parts(self):
        """Return all simple selectors, in order."""
        return [self.first] + [simple for _, simple in self.rows]

    def weight(self):
        """Return the sums of the simple selectors' weights."""
        weights = [simple.weight() for simple in self.parts()]
        ids = sum(row[0] for row in weights)
        classes = sum(row[1] for row in weights)
        return (ids, classes, sum(row[2] for row in weights))

    def shown(self):
        """Return (first, ((sign, simple), ..)), shown."""
        return (self.first.shown(), tuple((sign, simple.shown()) for sign, simple in self.rows))


def nodes_by(sign, nodes):
    """Return the elements that stand before a sign for one of some elements behind it, each once."""
    found = {}
    for node in nodes:
        for other in nodes_before(sign, node):
            found[other] = True
    return list(found)


def nodes_before(sign, node):
    """Return the elements that can stand before a sign for an element behind it."""
    if sign == " ":
        return node.path()[:-1]
    other = node.parent if sign == ">" else element_before(node)
    return [] if other is None else [other]


def element_before(node):
    """Return the element before a node among its parent's elements, None for none."""
    if node.parent is None:
        return None
    before = None
    for other in node.parent.children:
        if other == node:
            return before
        if not other.is_text():
            before = other
    return None


class SelectorReader:
    """A text and a place in it."""

    def __init__(self, text):
        self.text = text
        self.place = 0

    def here(self):
        """Return the next character, "" at the end."""
        return self.text[self.place:self.place + 1]

    def name_end(self):
        """Return the place behind the name that begins here; raise StyleError for none."""
        end = after_run(self.text, self.place, NAME_SIGNS)
        if end == self.place:
            raise StyleError("expected a name")
        return end

    def take_name(self):
        """Move past a name and return it; raise StyleError for none."""
        begin = self.place
        self.place = self.name_end()
        return self.text[begin:self.place]

    def take_state(self):
        """Move past the name of a state and return it; raise StyleError for another one."""
        state = self.take_name()
        if state not in STATES:
            raise StyleError("no state")
        return state

    def skip_blanks(self):
        """Move past blanks and line ends."""
        self.place = after_run(self.text, self.place, BLANKS)

    def attribute(self):
        """Move past an attribute's name, perhaps a value in quotes, and "]"; raise StyleError."""
        end = self.name_end()
        name = self.text[self.place:end]
        value = None
        if self.text[end:end + 1] == "=":
            begin = end + 2
            end = self.text.find('"', begin)
            if self.text[begin - 1:begin] != '"' or end < 0:
                raise StyleError("expected a value")
            value = self.text[begin:end]
            end += 1
        if self.text[end:end + 1] != "]":
            raise StyleError("expected ]")
        self.place = end + 1
        return (name, value)

    def take_tag(self):
        """Move past a tag or "*" and return the tag, None for any."""
        if self.here() == "*":
            self.place += 1
            return None
        if self.here() in ("", "#", ".", "[", ":"):
            return None
        return self.take_name()

    def take_simple(self):
        """Move past a simple selector and return it; raise StyleError."""
        begin = self.place
        tag = self.take_tag()
        names = []
        classes = []
        attributes = []
        states = []
        while self.here() in ("#", ".", "[", ":"):
            sign = self.here()
            self.place += 1
            if sign == "#":
                names.append(self.take_name())
            elif sign == ".":
                classes.append(self.take_name())
            elif sign == "[":
                attributes.append(self.attribute())
            else:
                states.append(self.take_state())
        if self.place == begin or len(names) > 1:
            raise StyleError("no simple selector")
        return Simple(tag, names[0] if names else None, classes, attributes, states)

    def take_sign(self):
        """Move past what parts two simple selectors and return it, "" for nothing that does."""
        begin = self.place
        self.skip_blanks()
        sign = self.here()
        if sign in (">", "+"):
            self.place += 1
            self.skip_blanks()
            return sign
        return "" if self.place == begin or sign in ("", ",") else " "

    def take_selector(self):
        """Move past a selector and return it; raise StyleError."""
        self.skip_blanks()
        first = self.take_simple()
        rows = []
        sign = self.take_sign()
        while sign != "":
            rows.append((sign, self.take_simple()))
            sign = self.take_sign()
        if len(rows) >= MOST_PARTS:
            raise StyleError("too many parts")
        return Selector(first, rows)


def parse_selectors(text):
    """Return the selectors of a text, parted by commas; raise StyleError."""
    reader = SelectorReader(text)
    found = [reader.take_selector()]
    while reader.here() == ",":
        reader.place += 1
        found.append(reader.take_selector())
    if reader.here() != "":
        raise StyleError("a selector goes on")
    return tuple(found)


def simple_text(simple):
    """Return the text of a simple selector."""
    found = [] if simple.tag is None else [simple.tag]
    if simple.name is not None:
        found.append("#" + simple.name)
    for word in simple.classes:
        found.append("." + word)
    for name, value in simple.attributes:
        found.append(f"[{name}]" if value is None else f'[{name}="{value}"]')
    for state in simple.states:
        found.append(":" + state)
    return "".join(found) if found else "*"


def selector_text(selector):
    """Return the text of a selector."""
    found = [simple_text(selector.first)]
    for sign, simple in selector.rows:
        found.append(" " if sign == " " else f" {sign} ")
        found.append(simple_text(simple))
    return "".join(found)


def find_all(root, text):
    """Return the elements of a tree that one of a text's selectors fits, in order; raise StyleError."""
    selectors = parse_selectors(text)
    found = []
    for node in root.all_nodes():
        if any(selector.fits(node) for selector in selectors):
            found.append(node)
    return found
