"""Trees [3]: nodes put, placed and taken out; what cannot be done changes nothing."""

import random
import unittest

from pagestack.errors import TreeError
from pagestack.nodes import Document, Node


def state(document):
    """Return all that can be seen of a document."""
    rows = []
    for number, node in sorted(document.nodes.items()):
        parent = None if node.parent is None else node.parent.number
        children = [child.number for child in node.children]
        rows.append((number, node.tag, node.text, dict(node.attributes), children, parent, node.value, node.checked))
    return (rows, document.next_number, document.root.number, document.version)


def chain(document, many):
    """Return the nodes of a tree of elements within each other, the topmost one first."""
    nodes = [document.make("div")]
    while len(nodes) < many:
        nodes.append(document.make("div"))
        document.append(nodes[-2], nodes[-1])
    return nodes


def numbers(node):
    """Return the numbers of a node's children."""
    return [child.number for child in node.children]


class Refused(unittest.TestCase):
    def refuse(self, document, deed, *arguments):
        before = state(document)
        with self.assertRaises(TreeError) as caught:
            deed(*arguments)
        self.assertEqual(state(document), before)
        return str(caught.exception)


class NodeTest(unittest.TestCase):
    def test_a_new_node_has_all_its_fields(self):
        node = Node(7, "p")
        self.assertEqual((node.number, node.tag, node.text), (7, "p", ""))
        self.assertEqual((node.attributes, node.children, node.parent), ({}, [], None))
        self.assertEqual((node.value, node.checked), ("", False))
        self.assertFalse(node.is_text())
        text = Node(8, None, "a")
        self.assertTrue(text.is_text())
        self.assertEqual(text.text, "a")

    def test_attributes_and_classes(self):
        node = Node(1, "p")
        self.assertIsNone(node.attribute("id"))
        self.assertEqual(node.class_words(), [])
        node.attributes["class"] = "  b a  b "
        node.attributes["id"] = ""
        self.assertEqual(node.class_words(), ["b", "a", "b"])
        self.assertEqual(node.attribute("id"), "")

    def test_looking_at_a_tree(self):
        document = Document()
        outer = document.make("div")
        inner = document.make("b")
        texts = [document.make(None, word) for word in ("one", "two", "three")]
        document.append(document.root, outer)
        document.append(outer, texts[0])
        document.append(outer, inner)
        document.append(inner, texts[1])
        document.append(outer, texts[2])
        document.set_attribute(outer, "id", "x")
        document.set_attribute(outer, "class", "y")
        self.assertEqual(outer.element_children(), [inner])
        self.assertEqual(texts[1].path(), [document.root, outer, inner, texts[1]])
        self.assertEqual(document.root.all_nodes(), [document.root, outer, texts[0], inner, texts[1], texts[2]])
        self.assertEqual(outer.content(), "onetwothree")
        self.assertEqual(texts[1].content(), "two")
        self.assertEqual(texts[1].shown(), "two")
        shown = ("div", (("class", "y"), ("id", "x")), ("one", ("b", (), ("two",)), "three"))
        self.assertEqual(outer.shown(), shown)
        self.assertEqual(document.root.shown(), ("html", (), (shown,)))
        document.remove(inner)
        self.assertEqual(texts[1].path(), [inner, texts[1]])


class DocumentTest(Refused):
    def test_a_new_document_has_a_root_alone(self):
        document = Document()
        self.assertEqual((document.root.number, document.root.tag), (0, "html"))
        self.assertEqual(document.nodes, {0: document.root})
        self.assertEqual(document.next_number, 1)
        self.assertIsNone(document.root.parent)

    def test_nodes_have_numbers_in_the_order_of_their_making(self):
        document = Document()
        made = [document.make("p"), document.make(None, "a"), document.make("br")]
        self.assertEqual([node.number for node in made], [1, 2, 3])
        self.assertEqual(document.next_number, 4)
        self.assertEqual(document.node_of(2), made[1])
        self.assertEqual(document.node_of(0), document.root)
        self.assertIsNone(made[0].parent)
        self.refuse(document, document.node_of, 4)
        self.refuse(document, document.node_of, -1)

    def test_appending(self):
        document = Document()
        first, second = document.make("p"), document.make(None, "a")
        document.append(document.root, first)
        document.append(document.root, second)
        self.assertEqual(numbers(document.root), [1, 2])
        document.append(document.root, first)
        self.assertEqual(numbers(document.root), [2, 1])
        document.append(first, second)
        self.assertEqual((numbers(document.root), numbers(first)), ([1], [2]))
        self.assertEqual(second.parent, first)

    def test_a_place_in_the_same_element_counts_the_node_still_there(self):
        wanted = {0: [2, 1, 3, 4], 1: [1, 2, 3, 4], 2: [1, 2, 3, 4], 3: [1, 3, 2, 4], 4: [1, 3, 4, 2]}
        for place, rows in wanted.items():
            document = Document()
            nodes = [document.make("p") for _ in range(4)]
            for node in nodes:
                document.append(document.root, node)
            document.place_before(document.root, nodes[1], place)
            self.assertEqual(numbers(document.root), rows)
            self.assertEqual(nodes[1].parent, document.root)

    def test_a_place_in_another_element(self):
        document = Document()
        one, other = document.make("ul"), document.make("ol")
        rows = [document.make("li") for _ in range(4)]
        for node in (one, other):
            document.append(document.root, node)
        for node in rows[:3]:
            document.place_before(one, node, 0)
        document.append(other, rows[3])
        document.place_before(other, rows[1], 1)
        self.assertEqual((numbers(one), numbers(other)), ([5, 3], [6, 4]))
        document.place_before(other, rows[0], 0)
        self.assertEqual((numbers(one), numbers(other)), ([5], [3, 6, 4]))

    def test_wrong_places(self):
        document = Document()
        nodes = [document.make("p") for _ in range(3)]
        for node in nodes[:2]:
            document.append(document.root, node)
        for place in (-1, 3, 99):
            self.refuse(document, document.place_before, document.root, nodes[2], place)
            self.refuse(document, document.place_before, document.root, nodes[0], place)
        self.refuse(document, document.place_before, nodes[0], nodes[1], 1)

    def test_children_of_texts_and_of_what_has_none(self):
        document = Document()
        text, child = document.make(None, "a"), document.make("b")
        document.append(document.root, text)
        self.refuse(document, document.append, text, child)
        self.refuse(document, document.place_before, text, child, 0)
        for tag in ("br", "hr", "img", "input", "meta", "link"):
            node = document.make(tag)
            self.refuse(document, document.append, node, child)
            self.refuse(document, document.set_text, node, "a")
            self.refuse(document, document.set_text, node, "")

    def test_a_node_above_itself_and_the_root(self):
        document = Document()
        nodes = chain(document, 3)
        document.append(document.root, nodes[0])
        for child in nodes:
            self.assertEqual(self.refuse(document, document.append, nodes[2], child), "a node above itself")
        self.refuse(document, document.append, nodes[2], document.root)
        self.refuse(document, document.append, document.root, document.root)
        self.refuse(document, document.append, document.make("p"), document.root)

    def test_trees_of_a_hundred_levels(self):
        document = Document()
        nodes = chain(document, 98)
        document.append(document.root, nodes[0])
        self.assertEqual(len(nodes[-1].path()), 99)
        text, pair = document.make(None, "a"), chain(document, 2)
        self.refuse(document, document.append, nodes[-1], pair[0])
        document.append(nodes[-1], text)
        self.assertEqual(len(text.path()), 100)
        document.append(nodes[-1], pair[1])
        self.refuse(document, document.append, pair[1], document.make("p"))
        self.refuse(document, document.append, pair[1], document.make(None, ""))
        self.refuse(document, document.set_text, pair[1], "a")
        self.refuse(document, document.set_text, pair[1], "")
        document.set_text(nodes[-1], "b")
        self.assertEqual(document.root.content(), "b")

    def test_levels_count_from_the_topmost_node_without_the_root_too(self):
        document = Document()
        nodes = chain(document, 100)
        self.refuse(document, document.append, nodes[-1], document.make("p"))
        self.refuse(document, document.append, document.root, nodes[0])
        self.refuse(document, document.append, document.make("p"), nodes[0])
        document.append(document.root, nodes[1])
        self.assertEqual(len(nodes[-1].path()), 100)
        self.refuse(document, document.append, nodes[0], document.root)

    def test_a_branch_with_its_deepest_leaf_counts(self):
        document = Document()
        nodes = chain(document, 60)
        other = chain(document, 50)
        document.append(other[3], document.make("p"))
        self.refuse(document, document.append, nodes[50], other[0])
        document.append(nodes[49], other[0])
        self.assertEqual(len(other[-1].path()), 100)

    def test_removing(self):
        document = Document()
        node, child = document.make("p"), document.make("b")
        document.append(document.root, node)
        document.append(node, child)
        document.remove(node)
        self.assertIsNone(node.parent)
        self.assertEqual((numbers(document.root), numbers(node)), ([], [2]))
        self.assertEqual(document.node_of(1), node)
        self.assertEqual(self.refuse(document, document.remove, node), "no parent")
        self.refuse(document, document.remove, document.root)
        document.append(document.root, node)
        self.assertEqual(numbers(document.root), [1])

    def test_attributes(self):
        document = Document()
        node, text = document.make("p"), document.make(None, "a")
        document.set_attribute(node, "b", "1")
        document.set_attribute(node, "a", "")
        document.set_attribute(node, "b", "2")
        self.assertEqual(node.shown(), ("p", (("a", ""), ("b", "2")), ()))
        document.set_attribute(node, "b", None)
        document.set_attribute(node, "c", None)
        self.assertEqual(node.attributes, {"a": ""})
        self.refuse(document, document.set_attribute, text, "a", "b")
        self.refuse(document, document.set_attribute, text, "a", None)

    def test_setting_texts(self):
        document = Document()
        node, child, text = document.make("p"), document.make("b"), document.make(None, "a")
        document.append(document.root, node)
        document.append(node, child)
        document.append(node, text)
        document.set_text(text, "new")
        self.assertEqual((text.text, document.next_number), ("new", 4))
        document.set_text(text, "")
        self.assertEqual(numbers(node), [2, 3])
        document.set_text(node, "all")
        self.assertEqual(node.shown(), ("p", (), ("all",)))
        self.assertEqual(node.children[0].number, 4)
        self.assertEqual(node.children[0].parent, node)
        self.assertEqual((child.parent, text.parent), (None, None))
        self.assertEqual(document.node_of(2), child)
        document.set_text(node, "")
        self.assertEqual((node.children, document.next_number), ([], 5))
        document.append(node, child)
        self.assertEqual(numbers(node), [2])

    def test_each_deed_counts_the_version_on(self):
        document = Document()
        node, text = document.make("p"), document.make(None, "a")
        deeds = ((document.append, document.root, node), (document.place_before, node, text, 0), (document.set_text, text, "b"),
                 (document.set_attribute, node, "a", "b"), (document.remove, text), (document.set_text, node, "c"))
        for deed, *arguments in deeds:
            before = document.version
            deed(*arguments)
            self.assertGreater(document.version, before)

    def test_the_first_with_an_id(self):
        document = Document()
        nodes = [document.make("p") for _ in range(3)]
        for node in nodes:
            document.set_attribute(node, "id", "x")
        self.assertIsNone(document.by_id("x"))
        document.append(document.root, nodes[2])
        document.append(document.root, nodes[1])
        document.append(nodes[2], nodes[0])
        self.assertEqual(document.by_id("x"), nodes[2])
        document.set_attribute(nodes[2], "id", "y")
        self.assertEqual(document.by_id("x"), nodes[0])
        self.assertIsNone(document.by_id("z"))
        document.set_attribute(document.root, "id", "x")
        self.assertEqual(document.by_id("x"), document.root)


class AnyDeeds(unittest.TestCase):
    """Many deeds, one after another, against lists of numbers that are kept beside the tree."""

    def model_place(self, model, parent, child, place, tags):
        above = parent
        line = [parent]
        while above in model["parent"]:
            above = model["parent"][above]
            line.append(above)
        row = model["children"].get(parent, [])
        if tags[parent] in (None, "br") or child == 0 or child in line or not 0 <= place <= len(row):
            return False
        old = model["parent"].get(child)
        if old is not None:
            at = model["children"][old].index(child)
            model["children"][old][at] = None
        model["children"].setdefault(parent, []).insert(place, child)
        for rows in model["children"].values():
            if None in rows:
                rows.remove(None)
        model["parent"][child] = parent
        return True

    def test_places(self):
        chance = random.Random(5)
        for _ in range(60):
            document = Document()
            tags = ["html"] + [chance.choice(["p", "b", "br", None]) for _ in range(8)]
            for tag in tags[1:]:
                document.make(tag)
            model = {"parent": {}, "children": {}}
            for _ in range(60):
                parent, child, place = chance.randrange(9), chance.randrange(9), chance.randrange(-1, 6)
                done = self.model_place(model, parent, child, place, tags)
                before = state(document)
                if done:
                    document.place_before(document.node_of(parent), document.node_of(child), place)
                else:
                    with self.assertRaises(TreeError):
                        document.place_before(document.node_of(parent), document.node_of(child), place)
                    self.assertEqual(state(document), before)
                for number, node in document.nodes.items():
                    self.assertEqual(numbers(node), model["children"].get(number, []))
                    above = None if node.parent is None else node.parent.number
                    self.assertEqual(above, model["parent"].get(number))


if __name__ == "__main__":
    unittest.main()
