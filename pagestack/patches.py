"""Patches: how one shown tree becomes another one, keeping children that have the same key.

A tree is a text, or (tag, attributes ascending, children); a child's key is its attribute "key". Patches are
("text", path, text), ("attribute", path, name, value or None), ("insert", path, place, tree), ("drop", path, place)
and ("move", path, from, to), the path being places of children from the root on; each one is done behind the others.
"""

from pagestack.errors import TreeError
from pagestack.nodes import MOST_LEVELS, VOID


def is_text(tree):
    """Return True for a tree that is a text."""
    return isinstance(tree, str)


def key_of(tree):
    """Return the key of a tree, None for none."""
    return None if is_text(tree) else dict(tree[1]).get("key")


def is_like(one, other):
    """Return True if a tree can become another one by patches within: both texts, or of one tag and one key."""
    if is_text(one) or is_text(other):
        return is_text(one) and is_text(other)
    return one[0] == other[0] and key_of(one) == key_of(other)


def all_trees(tree):
    """Return a tree and all trees within it."""
    found = []
    waiting = [tree]
    while waiting != []:
        one = waiting.pop()
        found.append(one)
        if not is_text(one):
            waiting.extend(one[2])
    return found


def check_keys(tree):
    """Raise TreeError if two children of an element have the same key."""
    for one in all_trees(tree):
        children = () if is_text(one) else one[2]
        keys = [key_of(child) for child in children if key_of(child) is not None]
        if len({key: True for key in keys}) != len(keys):
            raise TreeError("a key is told twice")


def children_of(told):
    """Return the children of an element; a row of children, which has no attributes, stands for itself."""
    if len(told) == 3 and is_text(told[0]) and isinstance(told[1], tuple):
        if told[1] == () or isinstance(told[1][0], tuple):
            return told[2]
    return told


def first_like(children, begin, child):
    """Return the first place from a place on of a child without a key that is like another one, None for none."""
    for place in range(begin, len(children)):
        if key_of(children[place]) is None and is_like(children[place], child):
            return place
    return None


def kept_children(old, new):
    """Return a table of old places to new ones: those with a key by it, the others the first alike one in order."""
    rows = children_of(old)
    by_key = {key_of(child): place for place, child in enumerate(rows) if key_of(child) is not None}
    found = {}
    begin = 0
    for place, child in enumerate(children_of(new)):
        if key_of(child) is None:
            taken = first_like(rows, begin, child)
            if taken is not None:
                begin = taken + 1
        else:
            taken = by_key.get(key_of(child))
            if taken is not None and not is_like(rows[taken], child):
                taken = None
        if taken is not None:
            found[taken] = place
    return found


def attribute_patches(old, new, path):
    """Return the patches of an element's attributes, by their names."""
    before = dict(old[1])
    after = dict(new[1])
    names = sorted({name: True for name in list(before) + list(after)})
    return [("attribute", path, name, after.get(name)) for name in names if before.get(name) != after.get(name)]


def child_patches(old, new, path):
    """Return the patches of an element's children: what goes, then what each new place needs."""
    kept = kept_children(old, new)
    going = [place for place in range(len(old[2])) if place not in kept]
    rows = [("drop", path, place) for place in going[::-1]]
    come_from = {place: before for before, place in kept.items()}
    # The old places of what stands in the element now, None for what was put in.
    standing = [place for place in range(len(old[2])) if place in kept]
    for place, child in enumerate(new[2]):
        before = come_from.get(place)
        if before is None:
            rows.append(("insert", path, place, child))
        else:
            now = standing.index(before)
            standing.pop(now)
            if now != place:
                rows.append(("move", path, now, place))
            rows.extend(patches_within(old[2][before], child, path + (place,)))
        standing.insert(place, before)
    return rows


def patches_within(old, new, path):
    """Return the patches that make one tree at a path of another one that is like it."""
    if is_text(new):
        return [] if old == new else [("text", path, new)]
    return attribute_patches(old, new, path) + child_patches(old, new, path)


def patches(old, new):
    """Return the patches that make one tree of another; raise TreeError for roots that are not alike, or keys twice."""
    check_keys(old)
    check_keys(new)
    if not is_like(old, new):
        raise TreeError("the roots are not alike")
    return tuple(patches_within(old, new, ()))


def levels_of(tree):
    """Return how many levels a tree has."""
    levels = 0
    row = [tree]
    while row != []:
        levels += 1
        row = [child for one in row if not is_text(one) for child in one[2]]
    return levels


def need_element(tree):
    """Raise TreeError for a text."""
    if is_text(tree):
        raise TreeError("no element")


def need_place(place, most):
    """Raise TreeError for a place that is not among those up to the last one."""
    if not 0 <= place <= most:
        raise TreeError("no such place")


def need_good(tree):
    """Raise TreeError for a tree in which an element that cannot have children has some."""
    if any(not is_text(one) and one[0] in VOID and one[2] != () for one in all_trees(tree)):
        raise TreeError("no children here")


def with_text(tree, row):
    """Return the text that a patch tells."""
    if not is_text(tree):
        raise TreeError("no text")
    return row[2]


def with_attribute(tree, row):
    """Return an element with an attribute set, or dropped for None."""
    need_element(tree)
    table = dict(tree[1])
    table[row[2]] = row[3]
    kept = [(name, table[name]) for name in sorted(table) if table[name] is not None]
    return (tree[0], tuple(kept), tree[2])


def with_child(tree, row):
    """Return an element with a tree put in among its children."""
    need_element(tree)
    _, path, place, child = row
    need_place(place, len(tree[2]))
    need_good(child)
    if tree[0] in VOID:
        raise TreeError("no children here")
    if len(path) + 1 + levels_of(child) > MOST_LEVELS:
        raise TreeError("too many levels")
    return (tree[0], tree[1], tree[2][:place] + (child,) + tree[2][place:])


def without_child(tree, row):
    """Return an element without one of its children."""
    need_element(tree)
    place = row[2]
    need_place(place, len(tree[2]) - 1)
    return (tree[0], tree[1], tree[2][:place] + tree[2][place + 1:])


def with_child_moved(tree, row):
    """Return an element in which a child stands at another place, counted with it taken out."""
    need_element(tree)
    need_place(row[2], len(tree[2]) - 1)
    need_place(row[3], len(tree[2]) - 1)
    children = list(tree[2])
    child = children.pop(row[2])
    children.insert(row[3], child)
    return (tree[0], tree[1], tuple(children))


DEEDS = {
    "text": with_text, "attribute": with_attribute, "insert": with_child, "drop": without_child,
    "move": with_child_moved,
}


def changed_at(tree, path, row):
    """Return a tree in which a patch is done below some places."""
    if len(path) == 0:
        action = DEEDS[row[0]]
        return action(tree, row)
    need_element(tree)
    place = path[0]
    need_place(place, len(tree[2]) - 1)
    child = changed_at(tree[2][place], path[1:], row)
    return (tree[0], tree[1], tree[2][:place] + (child,) + tree[2][place + 1:])


def patched(tree, rows):
    """Return the tree that patches make of another one; raise TreeError for one that does not fit."""
    for row in rows:
        if row[0] not in DEEDS:
            raise TreeError("no such patch")
        tree = changed_at(tree, row[1], row)
    return tree
