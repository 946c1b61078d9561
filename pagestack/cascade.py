"""Cascade: which value each property of each element has in the end."""

from pagestack.errors import StyleError
from pagestack.nodes import BLOCKS
from pagestack.styles import declarations_of
from pagestack.values import all_names, initial, value_of

NOT_SHOWN = ("head", "style", "script", "title", "meta", "link")
WITH_MARGINS = ("p", "ul", "ol", "h1", "h2")
# By tag: (property, value) rows that no other tag has.
BY_TAG = {
    "ul": (("padding-left", ("cells", 2)),),
    "ol": (("padding-left", ("cells", 2)),),
    "pre": (("white-space", "pre"),),
    "h1": (("text-transform", "upper"),),
    "hr": (("height", ("cells", 1)), ("background", "grey")),
}
HANDED_DOWN = ("color", "text-align", "white-space", "visibility", "text-transform")
OWN_WEIGHT = (1000, 0, 0)


def own_styles(node):
    """Return the declarations that the browser itself gives an element, as a table."""
    found = {}
    if node.tag in BLOCKS:
        found["display"] = "block"
    elif node.tag in NOT_SHOWN:
        found["display"] = "none"
    if node.tag in WITH_MARGINS:
        found["margin-top"] = ("cells", 1)
        found["margin-bottom"] = ("cells", 1)
    for name, value in BY_TAG.get(node.tag, ()):
        found[name] = value
    return found


def inline_declarations(node):
    """Return the declarations of an element's attribute "style"; none if the text is none."""
    text = node.attribute("style")
    if text is None:
        return ()
    try:
        return declarations_of(text)
    except StyleError:
        return ()


def greatest_weight(node, rule):
    """Return the greatest weight of a rule's selectors that fit an element, None if none does."""
    weights = [selector.weight() for selector in rule.selectors if selector.fits(node)]
    return max(weights) if weights else None


def ranked(node, rules, width):
    """Return the declarations for an element, those that win last."""
    rows = []
    for rule in rules:
        weight = greatest_weight(node, rule) if rule.holds(width) else None
        if weight is not None:
            rows.extend([(one.important, weight, one) for one in rule.declarations])
    rows.extend([(one.important, OWN_WEIGHT, one) for one in inline_declarations(node)])
    # Rows of one rank stay in the order of their rules and places, so that the later one wins.
    return [row[2] for row in sorted(rows, key=lambda row: (row[0], row[1]))]


def with_names(value, name, names):
    """Return a declared value with a named value put in, None if there is none, or it is no value of the property."""
    if not isinstance(value, tuple) or value[0] != "use":
        return value
    if value[1] not in names:
        return None
    try:
        return value_of(name, names[value[1]])
    except StyleError:
        return None


def told_value(name, winners, own, names):
    """Return the value that an element is told for a property, None for none."""
    if name in winners:
        # A use that leads to nothing hides what the browser tells, too.
        return with_names(winners[name], name, names)
    return own.get(name)


def computed(node, above, rules, width):
    """Return an element's values: a table of properties, and "names" for a table of named values."""
    winners = {one.name: one.value for one in ranked(node, rules, width)}
    names = dict(above.get("names", {}))
    names.update({name: value for name, value in winners.items() if name.startswith("--")})
    own = own_styles(node)
    found = {"names": names}
    for name in all_names():
        value = told_value(name, winners, own, names)
        if value == "inherit" or (value is None and name in HANDED_DOWN):
            value = above.get(name, initial(name))
        found[name] = initial(name) if value is None else value
    return adjusted(found)


def adjusted(found):
    """Return values as they are used: what is placed absolutely is a block if it were inline."""
    used = dict(found)
    if used.get("position") == "absolute" and used.get("display") == "inline":
        used["display"] = "block"
    return used


def styles_of(document, rules, width):
    """Return the values of all elements of a tree, by number."""
    found = {}
    for node in document.root.all_nodes():
        if not node.is_text():
            above = {} if node.parent is None else found[node.parent.number]
            found[node.number] = computed(node, above, rules, width)
    return found
