"""Patches [20]: how one tree becomes another one."""

import random
import unittest

from pagestack.errors import TreeError
from pagestack.patches import check_keys, is_like, kept_children, patched, patches


def tree(tag, *children, **attributes):
    """Return a tree."""
    return (tag, tuple(sorted(attributes.items())), children)


def keyed(*keys):
    """Return a ul with a li of each key, in which a text tells the key."""
    return tree("ul", *[tree("li", key, key=key) for key in keys])


def random_tree(dice, depth, key=None):
    """Return a tree of at most some levels."""
    if key is None and (depth == 0 or dice.random() < 0.3):
        return dice.choice(("", "x", "y"))
    attributes = {name: dice.choice("12") for name in "ab" if dice.random() < 0.3}
    if key is not None:
        attributes["key"] = key
    keys = dice.sample("mnop", 3)
    children = [random_tree(dice, depth - 1, keys.pop() if keys and dice.random() < 0.4 else None) for _ in range(dice.randrange(5) if depth else 0)]
    return tree(dice.choice(("p", "b")), *children, **attributes)


class Alike(unittest.TestCase):
    def test_what_is_alike(self):
        for one, other, wanted in (("a", "b", True), ("", "b", True), ("a", tree("p"), False), (tree("p"), "a", False), (tree("p"), tree("b"), False),
                                   (tree("p", "x", a="1"), tree("p"), True), (tree("p", key="1"), tree("p"), False), (tree("p"), tree("p", key="1"), False),
                                   (tree("p", key="1"), tree("p", key="1", a="2"), True), (tree("p", key="1"), tree("p", key="2"), False),
                                   (tree("p", key=""), tree("p"), False), (tree("p", key="1"), tree("b", key="1"), False)):
            self.assertIs(is_like(one, other), wanted, (one, other))

    def test_keys_told_twice(self):
        for good in ("a", tree("p"), keyed("a", "b", ""), tree("p", tree("b", key="1"), tree("u", tree("b", key="1")), key="1"), tree("p", "a", "a", tree("b"), tree("b"))):
            self.assertIsNone(check_keys(good))
        for bad in (keyed("a", "b", "a"), tree("p", tree("b", key="1"), tree("i", key="1")), tree("p", tree("u", keyed("", ""))), tree("p", keyed("a"), "x", keyed("b", "b"))):
            with self.assertRaises(TreeError):
                check_keys(bad)
            for old, new in ((tree(bad[0]), bad), (bad, tree(bad[0])), (bad, bad)):
                with self.assertRaises(TreeError):
                    patches(old, new)

    def test_roots_that_are_not_alike(self):
        for old, new in (("a", tree("p")), (tree("p"), "a"), (tree("p"), tree("b")), (tree("p", key="1"), tree("p")), (tree("p", key="1"), tree("p", key="2"))):
            with self.assertRaises(TreeError):
                patches(old, new)

    def test_kept_children(self):
        old = tree("p", "a", tree("b", key="1"), tree("i"), "c", tree("i", key="2"), tree("i"))
        new = tree("p", tree("i", key="2"), tree("i"), "x", tree("b", key="2x"), "y", tree("i"), tree("b", key="1"))
        self.assertEqual(kept_children(old, new), {4: 0, 2: 1, 3: 2, 5: 5, 1: 6})
        self.assertEqual(kept_children(old[2], new[2]), {4: 0, 2: 1, 3: 2, 5: 5, 1: 6})
        self.assertEqual(kept_children(tree("p"), new), {})
        self.assertEqual(kept_children(old, tree("p")), {})
        self.assertEqual(kept_children(keyed("a", "b"), keyed("b", "c", "a")), {1: 0, 0: 2})
        self.assertEqual(kept_children(tree("p", tree("b", key="1")), tree("p", tree("i", key="1"), tree("b"))), {})
        rows = ("a", tree("b", "x"), tree("i"))
        self.assertEqual(kept_children(rows, rows[:2]), {0: 0, 1: 1})


class Told(unittest.TestCase):
    def told(self, old, new, *rows):
        self.assertEqual(patches(old, new), rows)
        self.assertEqual(patched(old, rows), new)

    def test_a_tree_needs_none_to_be_itself(self):
        for one in ("", "a", tree("p"), keyed("a", "b"), tree("p", "a", "a", tree("b", "x", c="d"), tree("b", "x"))):
            self.told(one, one)

    def test_texts(self):
        self.told("a", "b", ("text", (), "b"))
        self.told("a", "", ("text", (), ""))
        self.told(tree("p", tree("b", "x", "y")), tree("p", tree("b", "x", "z")), ("text", (0, 1), "z"))

    def test_attributes(self):
        self.told(tree("p", a="1", b="2", d="3"), tree("p", b="4", c="", d="3"), ("attribute", (), "a", None), ("attribute", (), "b", "4"), ("attribute", (), "c", ""))
        self.told(tree("p", z="1"), tree("p", "x", a="2"), ("attribute", (), "a", "2"), ("attribute", (), "z", None), ("insert", (), 0, "x"))

    def test_what_goes_is_dropped_from_behind(self):
        self.told(keyed("a", "b", "c", "d"), keyed("c"), ("drop", (), 3), ("drop", (), 1), ("drop", (), 0))
        self.told(tree("p", "a", tree("b"), "c"), tree("p", tree("b")), ("drop", (), 2), ("drop", (), 0))

    def test_what_comes_is_put_in(self):
        self.told(keyed("b"), keyed("a", "b", "c"), ("insert", (), 0, tree("li", "a", key="a")), ("insert", (), 2, tree("li", "c", key="c")))

    def test_moves(self):
        self.told(keyed("a", "b", "c"), keyed("c", "a", "b"), ("move", (), 2, 0))
        self.told(keyed("a", "b", "c"), keyed("b", "c", "a"), ("move", (), 1, 0), ("move", (), 2, 1))
        self.told(keyed("a", "b", "c"), keyed("c", "b", "a"), ("move", (), 2, 0), ("move", (), 2, 1))
        self.told(keyed("a", "b", "c"), keyed("a", "c", "b"), ("move", (), 2, 1))

    def test_no_move_to_where_a_child_stands(self):
        self.told(keyed("a", "b", "c", "d"), keyed("b", "c", "d"), ("drop", (), 0))
        self.told(keyed("x", "a", "b"), keyed("a", "n", "b"), ("drop", (), 0), ("insert", (), 1, tree("li", "n", key="n")))

    def test_keys_that_stay_move_come_and_go(self):
        self.told(keyed("a", "b", "c", "d"), keyed("d", "e", "b"), ("drop", (), 2), ("drop", (), 0), ("move", (), 1, 0), ("insert", (), 1, tree("li", "e", key="e")))

    def test_patched_within_at_the_new_place(self):
        old = tree("ul", tree("li", "1", key="a"), tree("li", "2", key="b"))
        new = tree("ul", tree("li", "3", key="b", c="d"), tree("li", "1", tree("u"), key="a"))
        self.told(old, new, ("move", (), 1, 0), ("attribute", (0,), "c", "d"), ("text", (0, 0), "3"), ("insert", (1,), 1, tree("u")))

    def test_children_without_keys(self):
        self.told(tree("p", tree("b", "1"), tree("i"), tree("b", "2")), tree("p", tree("b", "2")), ("drop", (), 2), ("drop", (), 1), ("text", (0, 0), "2"))
        self.told(tree("p", tree("b"), tree("i")), tree("p", tree("i"), tree("b")), ("drop", (), 0), ("insert", (), 1, tree("b")))
        self.told(tree("p", "a", "b"), tree("p", "c"), ("drop", (), 1), ("text", (0,), "c"))
        self.told(tree("p", "a"), tree("p", "b", "c"), ("text", (0,), "b"), ("insert", (), 1, "c"))

    def test_a_key_and_none_are_not_alike(self):
        self.told(tree("p", tree("b", key="1")), tree("p", tree("b")), ("drop", (), 0), ("insert", (), 0, tree("b")))
        self.told(tree("p", tree("b", key="1")), tree("p", tree("i", key="1")), ("drop", (), 0), ("insert", (), 0, tree("i", key="1")))

    def test_random_trees(self):
        dice = random.Random(7)
        for _ in range(800):
            old, new = ("p", (), random_tree(dice, 3, "k")[2]), ("p", (), random_tree(dice, 3, "k")[2])
            rows = patches(old, new)
            self.assertEqual(patched(old, rows), new)
            self.assertEqual(patches(new, new), ())
            keys = [dict(child[1]).get("key") for child in new[2] if not isinstance(child, str)]
            for row in rows:
                if row[0] == "insert" and row[1] == () and not isinstance(row[3], str) and dict(row[3][1]).get("key") in keys[:-1]:
                    alike = [child for child in old[2] if not isinstance(child, str) and is_like(child, row[3]) and "key" in dict(child[1])]
                    self.assertEqual(alike, [])


class Patched(unittest.TestCase):
    def test_each_patch(self):
        one = tree("p", "a", tree("b", "x"), a="1")
        for row, wanted in ((("text", (0,), "z"), tree("p", "z", tree("b", "x"), a="1")), (("attribute", (), "a", "2"), tree("p", "a", tree("b", "x"), a="2")),
                            (("attribute", (), "a", None), tree("p", "a", tree("b", "x"))), (("attribute", (), "b", None), one),
                            (("attribute", (1,), "A", ""), tree("p", "a", tree("b", "x", A=""), a="1")),
                            (("attribute", (), "0", "3"), ("p", (("0", "3"), ("a", "1")), one[2])),
                            (("insert", (), 2, "c"), tree("p", "a", tree("b", "x"), "c", a="1")), (("insert", (1,), 0, tree("i")), tree("p", "a", tree("b", tree("i"), "x"), a="1")),
                            (("drop", (), 1), tree("p", "a", a="1")), (("drop", (1,), 0), tree("p", "a", tree("b"), a="1")),
                            (("move", (), 0, 1), tree("p", tree("b", "x"), "a", a="1")), (("move", (), 1, 1), one)):
            self.assertEqual(patched(one, (row,)), wanted, row)
        self.assertEqual(patched(one, ()), one)
        self.assertEqual(patched("a", (("text", (), "b"), ("text", (), "c"))), "c")

    def test_each_one_is_done_behind_the_others(self):
        rows = (("insert", (), 0, tree("b")), ("insert", (0,), 0, "x"), ("move", (), 0, 1), ("text", (1, 0), "y"), ("drop", (), 0))
        self.assertEqual(patched(tree("p", "a"), rows), tree("p", tree("b", "y")))

    def test_patches_that_do_not_fit(self):
        one = tree("p", "a", tree("b", "x"), tree("br"))
        for row in (("text", (), "z"), ("text", (1,), "z"), ("text", (3,), "z"), ("text", (-1,), "z"), ("text", (0, 0), "z"), ("text", (1, 1), "z"),
                    ("attribute", (0,), "a", "1"), ("attribute", (1, 0), "a", None), ("attribute", (4,), "a", "1"), ("insert", (), 4, "z"),
                    ("insert", (), -1, "z"), ("insert", (0,), 0, "z"), ("insert", (5,), 0, "z"), ("drop", (), 3), ("drop", (), -1), ("drop", (0,), 0),
                    ("drop", (2,), 0), ("move", (), 3, 0), ("move", (), 0, 3), ("move", (), -1, 0), ("move", (), 0, -1), ("move", (0,), 0, 0),
                    ("move", (2,), 0, 0), ("other", (), 0), ("", (), 0)):
            with self.assertRaises(TreeError):
                patched(one, (row,))
            with self.assertRaises(TreeError):
                patched(one, (("attribute", (), "a", "1"), row))

    def test_what_a_tree_refuses(self):
        one = tree("p", tree("br"), tree("input"))
        for row in (("insert", (0,), 0, "z"), ("insert", (1,), 0, tree("b")), ("insert", (), 0, tree("img", "x")), ("insert", (), 0, tree("b", tree("hr", "x")))):
            with self.assertRaises(TreeError):
                patched(one, (row,))
        self.assertEqual(patched(one, (("insert", (), 0, tree("hr")),))[2][0], tree("hr"))

    def test_levels(self):
        def chain(levels):
            found = tree("b")
            for _ in range(levels - 1):
                found = tree("b", found)
            return found
        deep = chain(99)
        self.assertEqual(patched(tree("p"), (("insert", (), 0, deep),)), tree("p", deep))
        self.assertEqual(patched(deep, (("insert", (0,) * 98, 0, "x"),)), patched(deep, patches(deep, patched(deep, (("insert", (0,) * 98, 0, "x"),)))))
        for one, row in ((tree("p"), ("insert", (), 0, chain(100))), (chain(100), ("insert", (0,) * 99, 0, "x")), (chain(50), ("insert", (0,) * 49, 0, chain(51)))):
            with self.assertRaises(TreeError):
                patched(one, (row,))


if __name__ == "__main__":
    unittest.main()
