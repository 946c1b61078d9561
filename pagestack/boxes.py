"""Boxes: which elements are laid out, as blocks or within lines."""


class Piece:
    """A piece of a line: a word or a space of an element, a line's end, or a thing of a width."""

    def __init__(self, kind, text, node, width):
        self.kind = kind
        self.text = text
        self.node = node
        self.width = width

    def shown(self):
        """Return (class, text, number of the element)."""
        return (self.kind, self.text, self.node.number)


class Box:
    """A block's element and values, its child boxes, or the pieces of its lines; then its place and sizes."""

    def __init__(self, node, values):
        self.node = node
        self.told = values
        self.children = []
        self.pieces = []
        self.left = 0
        self.top = 0
        self.width = 0
        self.height = 0


def transformed(text, word):
    """Return a text in capital or small letters if a word tells so."""
    if word == "upper":
        return text.upper()
    if word == "lower":
        return text.lower()
    return text


def shown_value(node):
    """Return the text that an input shows: its value, a mark, or nothing for a hidden one."""
    kind = node.attributes.get("type", "text")
    if kind == "hidden":
        return ""
    if kind == "checkbox":
        return "[x]" if node.checked else "[ ]"
    return "[" + node.value + "]"


def kept_pieces(text, node):
    """Return the pieces of a text whose blanks and line ends are kept."""
    found = []
    for place, row in enumerate(text.split("\n")):
        if place > 0:
            found.append(Piece("end", "", node, 0))
        if row != "":
            found.append(Piece("word", row, node, len(row)))
    return found
