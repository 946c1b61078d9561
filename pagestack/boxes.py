"""Boxes: which elements are laid out, as blocks or within lines."""

from pagestack.cascade import HANDED_DOWN
from pagestack.values import all_names, initial, resolved

IN_LINES = ("br", "img", "input")
IMG_WIDTH = 3


class Piece:
    """A piece of a line: a word or a space of an element, a line's end, or a thing of a width."""

    def __init__(self, kind, text, node, width):
        self.kind = kind
        self.text = text
        self.node = node
        self.width = width

    def shown(self):
        """Return (class, text, number of the element)."""
        return (self.kind, self.text, self.node.number)


class Box:
    """A block's element and values, its child boxes, or the pieces of its lines; then its place and sizes."""

    def __init__(self, node, values):
        self.node = node
        self.style = values
        self.children = []
        self.pieces = []
        self.lines = []
        self.left = 0
        self.top = 0
        self.width = 0
        self.height = 0
        self.inset_left = 0
        self.inset_top = 0

    def is_flex(self):
        """Return True if the children stand in rows."""
        return self.style["display"] == "flex"

    def is_absolute(self):
        """Return True if the box stands outside the flow."""
        return self.style["position"] == "absolute"

    def in_flow(self):
        """Return the children that stand in the flow, in order."""
        return [child for child in self.children if not child.is_absolute()]


def transformed(text, word):
    """Return a text in capital or small letters if a word tells so."""
    if word == "upper":
        return text.upper()
    if word == "lower":
        return text.lower()
    return text


def shown_value(node):
    """Return the text that an input shows: its value, a mark, or nothing for a hidden one."""
    kind = node.attributes.get("type", "text")
    if kind == "hidden":
        return ""
    if kind == "checkbox":
        return "[x]" if node.checked else "[ ]"
    return "[" + node.value + "]"


def kept_pieces(text, node):
    """Return the pieces of a text whose blanks and line ends are kept."""
    found = []
    for place, row in enumerate(text.split("\n")):
        if place > 0:
            found.append(Piece("end", "", node, 0))
        if row != "":
            found.append(Piece("word", row, node, len(row)))
    return found


def spaced_pieces(text, node):
    """Return the pieces of a text in which each blank and each line end is a space."""
    found = []
    for place, word in enumerate(text.replace("\n", " ").split(" ")):
        if place > 0:
            found.append(Piece("space", " ", node, 1))
        if word != "":
            found.append(Piece("word", word, node, len(word)))
    return found


def text_pieces(text, node, told):
    """Return the pieces of a text within an element that has some values."""
    shown = transformed(text, told["text-transform"])
    if told["white-space"] == "pre":
        return kept_pieces(shown, node)
    return spaced_pieces(shown, node)


def pieces_in_line(node, told):
    """Return the pieces of a br, an img or an input that stands in a line."""
    if node.tag == "br":
        return [Piece("end", "", node, 0)]
    if node.tag == "img":
        width = resolved(told["width"], 0)
        shown = "#" * (IMG_WIDTH if width == "auto" else width)
        return [Piece("thing", shown, node, len(shown))]
    # What an input shows is a text, so it is broken as other words are; only an img is a thing.
    shown = shown_value(node)
    return [] if shown == "" else [Piece("word", shown, node, len(shown))]


def values_without_element(above):
    """Return the values of a box without an element: those that are handed down, and first ones."""
    return {name: above[name] if name in HANDED_DOWN else initial(name) for name in all_names()}


class Filler:
    """A box that gets what is in it: its boxes so far, the pieces behind the last one, and what is outside the flow."""

    def __init__(self, box, styles):
        self.box = box
        self.styles = styles
        self.boxes = []
        self.run = []
        self.outside = []

    def take_children(self, node):
        """Take what is in an element, which is the box's own or an inline one within it."""
        for child in node.children:
            told = self.styles[node.number if child.is_text() else child.number]
            if child.is_text():
                self.run.extend(text_pieces(child.text, node, told))
            elif told["display"] == "none":
                continue
            elif told["position"] == "absolute":
                self.outside.append(built_box(child, self.styles))
            elif told["display"] != "inline" or self.box.is_flex():
                self.end_run()
                self.boxes.append(built_box(child, self.styles))
            elif child.tag in IN_LINES:
                self.run.extend(pieces_in_line(child, told))
            else:
                self.take_children(child)

    def end_run(self):
        """Put the pieces of a run into a box without an element, if they are more than spaces."""
        if any(piece.kind != "space" for piece in self.run):
            box = Box(None, values_without_element(self.box.style))
            box.pieces = self.run
            self.boxes.append(box)
        self.run = []

    def finish(self):
        """Give the box what was taken: a run that is alone as its own pieces, what is outside the flow at last."""
        self.end_run()
        box = self.box
        if len(self.boxes) == 1 and self.boxes[0].node is None and not box.is_flex():
            box.pieces = self.boxes[0].pieces
            self.boxes = []
        box.children = self.boxes + self.outside


def built_box(node, styles):
    """Return the box of an element, with all boxes and pieces within it, but without places and sizes."""
    box = Box(node, styles[node.number])
    # An img, a br or an input that has a box has no children, and so shows nothing.
    filler = Filler(box, styles)
    filler.take_children(node)
    filler.finish()
    return box
