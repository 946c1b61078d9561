"""Nodes: trees of elements and texts, changed by appending, placing and removing."""

from pagestack.errors import TreeError

MOST_LEVELS = 100
VOID = ("br", "hr", "img", "input", "meta", "link")
BLOCKS = (
    "html", "body", "div", "p", "ul", "ol", "li", "h1", "h2", "section", "form", "hr", "pre", "main",
)


class Node:
    """An element with a tag, attributes and children, or a text (its tag is None)."""

    def __init__(self, number, tag, text=""):
        self.number = number
        self.tag = tag
        self.text = text
        self.attributes = {}
        self.children = []
        self.parent = None
        self.value = ""
        self.checked = False

    def is_text(self):
        """Return True for a text."""
        return self.tag is None

    def attribute(self, name):
        """Return an attribute's value, None if it is not there."""
        return self.attributes.get(name)

    def class_words(self):
        """Return the words of the attribute "class", in order."""
        return self.attributes.get("class", "").split()

    def element_children(self):
        """Return the children that are elements, in order."""
        return [child for child in self.children if not child.is_text()]

    def path(self):
        """Return the nodes from the topmost one to this one."""
        found = [self]
        above = self.parent
        while above is not None:
            found.append(above)
            above = above.parent
        return found[::-1]

    def levels_below(self):
        """Return how many levels the tree of this node has, its own one counted."""
        levels = 0
        row = [self]
        while row:
            levels += 1
            row = [child for node in row for child in node.children]
        return levels

    def all_nodes(self):
        """Return this node and all below it, each before those below it, in order."""
        found = []
        waiting = [self]
        while waiting:
            node = waiting.pop()
            found.append(node)
            waiting.extend(node.children[::-1])
        return found

    def content(self):
        """Return the texts below the node, one after another."""
        return "".join(node.text for node in self.all_nodes() if node.is_text())

    def shown(self):
        """Return a text as it is; (tag, attributes in ascending order, children shown) for an element."""
        if self.is_text():
            return self.text
        rows = []
        for child in self.children:
            rows.append(child.shown())
        return (self.tag, tuple(sorted(self.attributes.items())), tuple(rows))


class Document:
    """A root element, all nodes by number, and the number of the next one."""

    def __init__(self):
        self.nodes = {}
        self.next_number = 0
        self.version = 0
        self.root = self.make("html")

    def make(self, tag, text=""):
        """Return a new node without a parent; a text for the tag None."""
        node = Node(self.next_number, tag, text)
        self.nodes[node.number] = node
        self.next_number += 1
        return node

    def node_of(self, number):
        """Return a node by its number; raise TreeError for none."""
        if number not in self.nodes:
            raise TreeError("no such node")
        return self.nodes[number]

    def append(self, parent, child):
        """Make a node the last child of an element; raise TreeError for a text, or a node above itself."""
        self.place_before(parent, child, len(parent.children))

    def place_before(self, parent, child, place):
        """Make a node the child of an element at a place; raise TreeError if that cannot be."""
        if parent.is_text() or parent.tag in VOID:
            raise TreeError("no children here")
        above = parent.path()
        if child.number == 0 or any(node.number == child.number for node in above):
            raise TreeError("a node above itself")
        if len(above) + child.levels_below() > MOST_LEVELS:
            raise TreeError("too many levels")
        if not 0 <= place <= len(parent.children):
            raise TreeError("no such place")
        old = child.parent
        # The place was counted with the child still there, so those behind it move up by one.
        if old == parent and old.children.index(child) < place:
            place -= 1
        if old is not None:
            old.children.remove(child)
        parent.children.insert(place, child)
        child.parent = parent
        self.version += 1

    def remove(self, child):
        """Take a node out of its parent; it may be used again. Raise TreeError without a parent."""
        if child.parent is None:
            raise TreeError("no parent")
        child.parent.children.remove(child)
        child.parent = None
        self.version += 1

    def set_attribute(self, node, name, value):
        """Set an attribute of an element, None to drop it; raise TreeError for a text."""
        if node.is_text():
            raise TreeError("no attributes of texts")
        if value is not None:
            node.attributes[name] = value
        elif name in node.attributes:
            del node.attributes[name]
        self.version += 1

    def set_text(self, node, text):
        """Set a text, or let an element have one text as its only child, none for ""."""
        if node.is_text():
            node.text = text
        elif node.tag in VOID or len(node.path()) >= MOST_LEVELS:
            raise TreeError("no children here")
        else:
            self.change_children(node, text)
        self.version += 1

    def change_children(self, node, text):
        """Drop the children of an element and give it a text, none for ""."""
        for child in node.children:
            child.parent = None
        node.children.clear()
        if text != "":
            fresh = self.make(None, text)
            fresh.parent = node
            node.children.append(fresh)

    def by_id(self, name):
        """Return the first element of the tree whose attribute "id" is a name, None for none."""
        for node in self.root.all_nodes():
            if node.attribute("id") == name:
                return node
        return None
