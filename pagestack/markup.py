"""Markup: texts to documents, and documents to texts."""

from pagestack.errors import MarkupError
from pagestack.nodes import BLOCKS, VOID, Document
from pagestack.texts import BLANKS, after_run

TAG_SIGNS = "abcdefghijklmnopqrstuvwxyz0123456789-"
ENTITIES = {"lt": "<", "gt": ">", "amp": "&", "quot": '"'}
RAW = ("script", "style")
MOST_OPEN = 60


def with_entities(text):
    """Return a text with &lt; &gt; &amp; and &quot; put in; raise MarkupError for others."""
    first, *rest = text.split("&")
    found = [first]
    for part in rest:
        name, mark, after = part.partition(";")
        if mark == "" or name not in ENTITIES:
            raise MarkupError("an unknown entity")
        found.append(ENTITIES[name] + after)
    return "".join(found)


def escaped(text):
    """Return a text in which characters with a meaning are entities."""
    # "&" comes first, or the entities that are put in would be changed again.
    text = text.replace("&", "&amp;").replace("<", "&lt;")
    return text.replace(">", "&gt;").replace('"', "&quot;")


class MarkupReader:
    """A text and a place in it, the document that grows, and the elements that are open there."""

    def __init__(self, text):
        self.text = text
        self.place = 0
        self.document = Document()
        self.opened = [self.document.root]

    def here(self):
        """Return the next character, "" at the end."""
        return self.text[self.place:self.place + 1]

    def read_all(self):
        """Read the whole text."""
        while self.here() != "":
            if self.text.startswith("<!--", self.place):
                self.skip_remark()
            elif self.text.startswith("</", self.place):
                self.read_end()
            elif self.here() == "<":
                self.read_beginning()
            else:
                self.read_text()

    def skip_remark(self):
        """Move past a remark; raise MarkupError for one that does not end."""
        end = self.text.find("-->", self.place + 4)
        if end < 0:
            raise MarkupError("a remark does not end")
        self.place = end + 3

    def skip_blanks(self):
        """Move past blanks and line ends; return whether there were any."""
        begin = self.place
        self.place = after_run(self.text, begin, BLANKS)
        return self.place > begin

    def skip_sign(self, sign):
        """Move past a sign; raise MarkupError for another one."""
        if self.here() != sign:
            raise MarkupError("expected " + sign)
        self.place += 1

    def take_name(self):
        """Move past the name of a tag or an attribute and return it; raise MarkupError for none."""
        begin = self.place
        self.place = after_run(self.text, begin, TAG_SIGNS)
        if self.place == begin:
            raise MarkupError("expected a name")
        return self.text[begin:self.place]

    def take_value(self):
        """Move past the value of an attribute, if there is one, and return it; "" for none."""
        if self.here() != "=":
            return ""
        self.place += 1
        self.skip_sign('"')
        end = self.text.find('"', self.place)
        if end < 0:
            raise MarkupError("a value does not end")
        value = with_entities(self.text[self.place:end])
        self.place = end + 1
        return value

    def take_attributes(self):
        """Move past the attributes of a tag and its ">"; return them as a table."""
        found = {}
        parted = self.skip_blanks()
        while self.here() != ">":
            name = self.take_name()
            if not parted or name in found:
                raise MarkupError("a bad attribute")
            found[name] = self.take_value()
            parted = self.skip_blanks()
        self.place += 1
        return found

    def read_beginning(self):
        """Move past the beginning of an element, put it into the tree, and leave it open if it may have children."""
        self.place += 1
        tag = self.take_name()
        attributes = self.take_attributes()
        if tag == "html":
            raise MarkupError("a tag html")
        self.end_before(tag)
        if len(self.opened) >= MOST_OPEN:
            raise MarkupError("too many open ones")
        node = self.document.make(tag)
        node.attributes = attributes
        if tag == "input":
            node.value = attributes.get("value", "")
            node.checked = "checked" in attributes
        self.document.append(self.opened[-1], node)
        if tag in RAW:
            self.read_raw(node)
        elif tag not in VOID:
            self.opened.append(node)

    def end_before(self, tag):
        """End what a tag ends by beginning."""
        if tag in BLOCKS and self.opened[-1].tag == "p":
            del self.opened[-1]
        if tag == "li":
            self.end_item()

    def end_item(self):
        """End the nearest open li, unless a list is open in it."""
        for place in range(len(self.opened) - 1, 0, -1):
            tag = self.opened[place].tag
            if tag in ("ul", "ol"):
                return
            if tag == "li":
                del self.opened[place:]
                return

    def read_raw(self, node):
        """Move past the text of a script or style and its end."""
        mark = "</" + node.tag + ">"
        end = self.text.find(mark, self.place)
        if end < 0:
            raise MarkupError("a raw text does not end")
        if end > self.place:
            self.document.append(node, self.document.make(None, self.text[self.place:end]))
        self.place = end + len(mark)

    def read_end(self):
        """Move past an end, and end the innermost open element of its tag and those within."""
        self.place += 2
        tag = self.take_name()
        self.skip_blanks()
        self.skip_sign(">")
        # The root has no end of its own, so it is not among those that may be ended.
        places = [place for place in range(1, len(self.opened)) if self.opened[place].tag == tag]
        if places == []:
            raise MarkupError("an end without a beginning")
        del self.opened[places[-1]:]

    def read_text(self):
        """Move past a text, and put it into the tree unless it is left out."""
        end = self.text.find("<", self.place)
        if end < 0:
            end = len(self.text)
        text = with_entities(self.text[self.place:end])
        self.place = end
        parent = self.opened[-1]
        if parent.tag not in BLOCKS or text.strip(BLANKS) != "":
            self.document.append(parent, self.document.make(None, text))


def parse_markup(text):
    """Return the document of a text; raise MarkupError."""
    reader = MarkupReader(text)
    reader.read_all()
    return reader.document


def beginning_of(node):
    """Return the tag with which an element begins."""
    rows = [f' {name}="{escaped(value)}"' for name, value in sorted(node.attributes.items())]
    return "<" + node.tag + "".join(rows) + ">"


def written_text(node):
    """Return the markup of a text, as it is in a script or style."""
    if node.parent is not None and node.parent.tag in RAW:
        return node.text
    return escaped(node.text)


def write_node(node, found):
    """Add the markup of a node and those below it to a list."""
    if node.is_text():
        found.append(written_text(node))
        return
    found.append(beginning_of(node))
    if node.tag not in VOID:
        for child in node.children:
            write_node(child, found)
        found.append("</" + node.tag + ">")


def markup_of(node):
    """Return the markup of a node and those below it."""
    found = []
    write_node(node, found)
    return "".join(found)


def inner_markup(node):
    """Return the markup of what is below a node."""
    found = []
    for child in node.children:
        write_node(child, found)
    return "".join(found)
