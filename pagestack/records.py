"""Records: what is done to a document, told so that it can be done again elsewhere, or taken back.

Records are ("place", child, parent, place, old parent or None, old place), ("remove", child, parent, place),
("attribute", node, name, old, new), ("text", node, old, new) and ("make", node, tag, text), all nodes by number. The
place of a placed node is the one behind the deed.
"""

from pagestack.errors import TreeError


class Recorder:
    """A document and the records of what was done to it by the recorder."""

    def __init__(self, document):
        self.document = document
        self.rows = []

    def take(self):
        """Return the records since the last time, and forget them."""
        taken = tuple(self.rows)
        self.rows = []
        return taken

    def make(self, tag, text=""):
        """Make a node and return it."""
        node = self.document.make(tag, text)
        self.rows.append(("make", node.number, tag, text))
        return node

    def place_before(self, parent, child, place):
        """Make a node the child of an element at a place; raise TreeError, which records nothing."""
        old = child.parent
        number = None if old is None else old.number
        old_place = place_of(child)
        self.document.place_before(parent, child, place)
        self.rows.append(("place", child.number, parent.number, place_of(child), number, old_place))

    def append(self, parent, child):
        """Make a node the last child of an element; raise TreeError, which records nothing."""
        self.place_before(parent, child, len(parent.children))

    def remove(self, child):
        """Take a node out of its parent; raise TreeError, which records nothing."""
        old = child.parent
        old_place = place_of(child)
        self.document.remove(child)
        self.rows.append(("remove", child.number, old.number, old_place))

    def set_attribute(self, node, name, value):
        """Set an attribute, None to drop it; raise TreeError, which records nothing."""
        old = node.attribute(name)
        self.document.set_attribute(node, name, value)
        self.rows.append(("attribute", node.number, name, old, value))

    def set_text(self, node, text):
        """Set the text of a text; raise TreeError for an element, which records nothing."""
        if not node.is_text():
            raise TreeError("no text")
        old = node.text
        self.document.set_text(node, text)
        self.rows.append(("text", node.number, old, text))


def place_of(node):
    """Return the place of a node among its parent's children, 0 without a parent."""
    return 0 if node.parent is None else node.parent.children.index(node)


def put_at(document, node, parent, place):
    """Let a node stand at a place among the children of a parent, told by its number, whatever stood there before."""
    above = document.node_of(parent)
    # The place is meant with the node taken out; the document counts it still in there.
    if node.parent == above and place > place_of(node):
        place += 1
    document.place_before(above, node, place)


def change_text(document, number, text):
    """Set the text of the text that has a number; raise TreeError for an element."""
    node = document.node_of(number)
    if not node.is_text():
        raise TreeError("no text")
    document.set_text(node, text)


def make_again(document, row):
    """Make the node of a record; raise TreeError if it would have another number."""
    # The number is asked before, since a refused record makes nothing.
    if document.next_number != row[1]:
        raise TreeError("another number")
    document.make(row[2], row[3])


def place_again(document, row):
    """Place the node of a record."""
    put_at(document, document.node_of(row[1]), row[2], row[3])


def remove_again(document, row):
    """Take the node of a record out of its parent."""
    document.remove(document.node_of(row[1]))


def set_again(document, row):
    """Set the attribute of a record to its new value."""
    document.set_attribute(document.node_of(row[1]), row[2], row[4])


def write_again(document, row):
    """Set the text of a record to its new one."""
    change_text(document, row[1], row[3])


def unmake(document, row):
    """Let the node of a record stay as it is, without a parent, if it is there."""
    document.node_of(row[1])


def unplace(document, row):
    """Put the node of a record back to where it was, or take it out if it was nowhere."""
    node = document.node_of(row[1])
    if row[4] is None:
        document.remove(node)
    else:
        put_at(document, node, row[4], row[5])


def unremove(document, row):
    """Put the node of a record back to where it was."""
    put_at(document, document.node_of(row[1]), row[2], row[3])


def unset(document, row):
    """Set the attribute of a record to its old value."""
    document.set_attribute(document.node_of(row[1]), row[2], row[3])


def unwrite(document, row):
    """Set the text of a record to its old one."""
    change_text(document, row[1], row[2])


AGAIN = {
    "make": make_again, "place": place_again, "remove": remove_again, "attribute": set_again, "text": write_again,
}
BACK = {"make": unmake, "place": unplace, "remove": unremove, "attribute": unset, "text": unwrite}


def need_known(row):
    """Raise TreeError for a record of an unknown kind."""
    if row[0] not in AGAIN:
        raise TreeError("no such record")


def replayed(document, records):
    """Do all records to a document whose nodes have the same numbers; raise TreeError for one that cannot be."""
    for row in records:
        need_known(row)
        action = AGAIN[row[0]]
        action(document, row)


def taken_back(document, records):
    """Take all records back, the last one first; nodes that were made stay without a parent."""
    for row in records[::-1]:
        need_known(row)
        action = BACK[row[0]]
        action(document, row)


def what_is_set(row):
    """Return what a record of an attribute or a text sets, None for another record."""
    if row[0] == "attribute":
        return row[:3]
    return row[:2] if row[0] == "text" else None


def joined_records(records):
    """Return fewer records that lead to the same: those of one attribute or one text that stand in a row are one."""
    found = []
    for row in records:
        told = what_is_set(row)
        if told is not None and found != [] and what_is_set(found[-1]) == told:
            # The first old value and the last new one: so taking back leads to before the first of them.
            found[-1] = told + (found[-1][-2], row[-1])
        else:
            found.append(row)
    return tuple(found)
