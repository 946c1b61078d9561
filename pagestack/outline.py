"""Outline: what a page says to who does not see it: what things are, what they are called, and in which order."""

from pagestack.markup import RAW
from pagestack.texts import is_digits

ROLES = {
    "a": "link", "button": "button", "img": "image", "li": "item", "ul": "list", "ol": "list", "form": "form",
    "main": "main", "section": "part", "h1": "heading", "h2": "heading", "p": "text",
}
FOCUS = ("link", "button", "field", "mark")
# By class of an input; other inputs are fields.
INPUT_ROLES = {"checkbox": "mark", "submit": "button", "hidden": None}
NOT_BY_TEXT = ("field", "mark", "image")
MOST_DIGITS = 4


def role_of(node):
    """Return what an element is, None for nothing in particular: by its attribute "role", else by its tag."""
    told = node.attribute("role")
    if told is not None:
        return None if told == "none" else told
    if node.tag == "a" and node.attribute("href") is None:
        return None
    if node.tag == "input":
        return INPUT_ROLES.get(node.attributes.get("type", "text"), "field")
    return ROLES.get(node.tag)


def is_left_out(node):
    """Return True for an element that nothing is said of, or that stands within such a one."""
    return any([one.tag in RAW or one.attribute("hidden") is not None for one in node.path()])


def squeezed(text):
    """Return a text in which blanks and line ends in a row are one blank, without those at the ends."""
    return " ".join([word for word in text.replace("\n", " ").split(" ") if word != ""])


def element_told_by(node, document):
    """Return the element whose id the attribute "labelledby" of another one tells, None for none."""
    name = node.attribute("labelledby")
    return None if name is None else document.by_id(name)


def told_name(node, document):
    """Return what an element is called by its attributes, None if they tell nothing."""
    label = node.attribute("label")
    if label is not None:
        return squeezed(label)
    other = element_told_by(node, document)
    if other is not None:
        return squeezed(other.content())
    for word in ("alt", "title"):
        text = squeezed(node.attributes.get(word, ""))
        if text != "":
            return text
    return None


def name_of(node, document):
    """Return what an element is called, "" for nothing.

    By "label", the text of the element whose id "labelledby" tells, "alt" or "title"; then, but for fields, marks and
    images, by its own text, and then by the text of a label whose "for" is its id.
    """
    told = told_name(node, document)
    if told is not None:
        return told
    text = "" if role_of(node) in NOT_BY_TEXT else squeezed(node.content())
    return squeezed(label_for(node, document)) if text == "" else text


def label_for(node, document):
    """Return the text of the first label of an element, "" for none."""
    name = node.attribute("id")
    if name is None:
        return ""
    for one in document.root.all_nodes():
        if one.tag == "label" and one.attribute("for") == name:
            return one.content()
    return ""


def told_elements(document):
    """Return the elements of a document that are not left out, in order."""
    return [node for node in document.root.all_nodes() if not node.is_text() and not is_left_out(node)]


def outline(document):
    """Return (level, role, name) of all elements with a role that are not left out, in order.

    The level counts those of them that an element stands within.
    """
    rows = []
    for node in told_elements(document):
        role = role_of(node)
        if role is not None:
            level = sum([1 for one in node.path()[:-1] if role_of(one) is not None])
            rows.append((level, role, name_of(node, document)))
    return tuple(rows)


def order_told(node):
    """Return the number of the attribute "order", None for none, or for no whole number of up to four digits."""
    text = node.attributes.get("order", "")
    return int(text) if is_digits(text.removeprefix("-"), MOST_DIGITS) else None


def can_have_focus(node):
    """Return True for an element that can have the focus: by what it is, or since it has an order."""
    if node.attribute("off") is not None:
        return False
    order = order_told(node)
    return role_of(node) in FOCUS if order is None else order >= 0


def focus_order(document):
    """Return the numbers of elements that can have the focus: by "order" from 1 on, ascending, then all others.

    Links, buttons, fields and marks can, and what has an order; none with an order below 0, or that is off.
    """
    ordered = []
    others = []
    for place, node in enumerate(told_elements(document)):
        order = order_told(node)
        if not can_have_focus(node):
            continue
        if order is None or order == 0:
            others.append(node.number)
        else:
            # The place stands behind the order, so that ties stay as they stand.
            ordered.append((order, place, node.number))
    return tuple([row[2] for row in sorted(ordered)] + others)


def headings(document):
    """Return (level, name) of all headings in order, and how often a level is left out on the way down."""
    rows = []
    left_out = 0
    before = 0
    for node in told_elements(document):
        if role_of(node) == "heading":
            level = 1 if node.tag == "h1" else 2
            rows.append((level, name_of(node, document)))
            left_out += 1 if level > before + 1 else 0
            before = level
    return (tuple(rows), left_out)
