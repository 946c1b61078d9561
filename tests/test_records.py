"""Records [19]: what was done to a document, done again elsewhere, taken back, and joined."""

import random
import unittest

from pagestack.errors import TreeError
from pagestack.markup import parse_markup
from pagestack.nodes import Document
from pagestack.records import Recorder, joined_records, put_at, replayed, taken_back

MARKUP = "<div>one<b>two</b><i></i></div><p>three</p><br>"


def state(document):
    """Return all that a document has: its tree, what stands without a parent, and all texts and attributes."""
    rows = []
    for number, node in document.nodes.items():
        parent = None if node.parent is None else node.parent.number
        rows.append((number, node.tag, node.text, tuple(sorted(node.attributes.items())), parent, [child.number for child in node.children]))
    return (document.root.shown(), document.next_number, rows)


def linked(document):
    """Return what holds the nodes together, without those that have no parent."""
    return [(node.number, node.tag, node.text, tuple(sorted(node.attributes.items())), [child.number for child in node.children])
            for node in document.root.all_nodes()]


class Told(unittest.TestCase):
    """What is recorded of each deed."""

    def setUp(self):
        self.document = parse_markup(MARKUP)
        self.recorder = Recorder(self.document)
        self.div, self.one, self.b, self.two, self.i, self.p, self.three, self.br = [self.document.nodes[n] for n in range(1, 9)]

    def test_a_new_recorder(self):
        self.assertIs(self.recorder.document, self.document)
        self.assertEqual((self.recorder.rows, self.recorder.take()), ([], ()))

    def test_making(self):
        node = self.recorder.make("u")
        text = self.recorder.make(None, "x")
        self.assertEqual((node.tag, text.text, node.parent), ("u", "x", None))
        self.assertEqual(self.recorder.take(), (("make", 9, "u", ""), ("make", 10, None, "x")))
        self.assertIs(self.document.node_of(9), node)

    def test_taking_forgets(self):
        self.recorder.make("u")
        self.assertEqual(self.recorder.rows, [("make", 9, "u", "")])
        self.assertEqual((len(self.recorder.take()), self.recorder.rows, self.recorder.take()), (1, [], ()))

    def test_placing(self):
        root = self.document.root
        fresh = self.recorder.make("u")
        for parent, child, place, wanted in ((root, fresh, 0, (0, None, 0)), (root, fresh, 0, (0, 0, 0)), (root, fresh, 1, (0, 0, 0)),
                                             (root, fresh, 4, (3, 0, 0)), (root, fresh, 1, (1, 0, 3)), (self.div, fresh, 3, (3, 0, 1)),
                                             (self.i, self.b, 0, (0, 1, 1))):
            self.recorder.take()
            self.recorder.place_before(parent, child, place)
            self.assertEqual(self.recorder.take(), (("place", child.number, parent.number) + wanted,))
            self.assertEqual(parent.children.index(child), wanted[0])

    def test_appending(self):
        self.recorder.append(self.document.root, self.div)
        self.recorder.append(self.p, self.b)
        self.assertEqual(self.recorder.take(), (("place", 1, 0, 2, 0, 0), ("place", 3, 6, 1, 1, 1)))

    def test_removing(self):
        self.recorder.remove(self.i)
        self.recorder.remove(self.div)
        self.assertEqual(self.recorder.take(), (("remove", 5, 1, 2), ("remove", 1, 0, 0)))

    def test_attributes(self):
        for value in ("x", "x", "", None, None):
            self.recorder.set_attribute(self.div, "a", value)
        self.assertEqual(self.recorder.take(), (("attribute", 1, "a", None, "x"), ("attribute", 1, "a", "x", "x"), ("attribute", 1, "a", "x", ""),
                                                ("attribute", 1, "a", "", None), ("attribute", 1, "a", None, None)))

    def test_texts(self):
        self.recorder.set_text(self.one, "new")
        self.recorder.set_text(self.one, "")
        self.assertEqual(self.recorder.take(), (("text", 2, "one", "new"), ("text", 2, "new", "")))
        self.assertEqual(self.one.text, "")

    def test_what_cannot_be_records_and_changes_nothing(self):
        before = state(self.document)
        loose = self.document.nodes[4]
        deeds = ((self.recorder.place_before, (self.one, self.b, 0)), (self.recorder.place_before, (self.br, self.b, 0)),
                 (self.recorder.place_before, (self.b, self.div, 0)), (self.recorder.place_before, (self.div, self.document.root, 0)),
                 (self.recorder.place_before, (self.div, self.p, 4)), (self.recorder.place_before, (self.div, self.p, -1)),
                 (self.recorder.append, (self.one, self.b)), (self.recorder.append, (self.br, self.b)), (self.recorder.append, (loose, self.p)),
                 (self.recorder.remove, (self.document.root,)), (self.recorder.set_attribute, (self.one, "a", "b")),
                 (self.recorder.set_attribute, (self.one, "a", None)), (self.recorder.set_text, (self.div, "x")),
                 (self.recorder.set_text, (self.br, "x")))
        for deed, arguments in deeds:
            with self.assertRaises(TreeError):
                deed(*arguments)
            self.assertEqual((self.recorder.rows, state(self.document)), ([], before), deed.__name__)
        loose = self.document.make("u")
        with self.assertRaises(TreeError):
            self.recorder.remove(loose)
        self.assertEqual(self.recorder.take(), ())

    def test_too_many_levels(self):
        nodes = [self.document.root]
        while len(nodes) < 100:
            nodes.append(self.document.make("u"))
            self.document.append(nodes[-2], nodes[-1])
        with self.assertRaises(TreeError):
            self.recorder.append(nodes[-1], self.p)
        self.assertEqual(self.recorder.take(), ())


class PutAt(unittest.TestCase):
    def setUp(self):
        self.document = parse_markup("<a></a><b></b><i></i><p><u></u></p>")
        self.tags = lambda: "".join(node.tag for node in self.document.root.children)

    def test_the_place_is_the_one_behind_the_deed(self):
        for place, wanted in ((0, "abip"), (1, "baip"), (2, "biap"), (3, "bipa"), (0, "abip")):
            put_at(self.document, self.document.nodes[1], 0, place)
            self.assertEqual(self.tags(), wanted)

    def test_from_elsewhere_and_from_nowhere(self):
        put_at(self.document, self.document.nodes[5], 0, 4)
        self.assertEqual(self.tags(), "abipu")
        put_at(self.document, self.document.make("br"), 4, 0)
        self.assertEqual(self.document.nodes[4].shown(), ("p", (), (("br", (), ()),)))

    def test_what_cannot_be(self):
        before = state(self.document)
        for number, parent, place in ((1, 0, 4), (1, 0, -1), (1, 9, 0), (4, 5, 0), (0, 1, 0), (1, 4, 2), (4, 4, 0)):
            with self.assertRaises(TreeError):
                put_at(self.document, self.document.nodes[number], parent, place)
            self.assertEqual(state(self.document), before)


def random_deed(recorder, dice):
    """Do something to a document; return False if it cannot be."""
    document = recorder.document
    nodes = [node for node in document.nodes.values()]
    one, other = dice.choice(nodes), dice.choice(nodes)
    kind = dice.randrange(6)
    try:
        if kind == 0:
            recorder.make(dice.choice(("a", "b", None)), dice.choice(("", "x")))
        elif kind == 1:
            recorder.place_before(one, other, dice.randrange(-1, len(one.children) + 2))
        elif kind == 2:
            recorder.append(one, other)
        elif kind == 3:
            recorder.remove(one)
        elif kind == 4:
            recorder.set_attribute(one, dice.choice("xy"), dice.choice((None, "", "1", "2")))
        else:
            recorder.set_text(one, dice.choice(("", "s", "t")))
    except TreeError:
        return False
    return True


class Again(unittest.TestCase):
    def test_done_again_and_taken_back(self):
        dice = random.Random(5)
        for _ in range(60):
            document = parse_markup(MARKUP)
            copy = parse_markup(MARKUP)
            before = linked(copy)
            recorder = Recorder(document)
            done = [random_deed(recorder, dice) for _ in range(40)]
            records = recorder.take()
            self.assertEqual(len(records), done.count(True))
            replayed(copy, records)
            self.assertEqual(state(copy), state(document))
            taken_back(copy, records)
            self.assertEqual(linked(copy), before)
            for number in range(9, copy.next_number):
                self.assertIsNone(copy.node_of(number).parent)

    def test_joined_records_lead_to_the_same(self):
        dice = random.Random(6)
        for _ in range(60):
            document = parse_markup("a<b></b>")
            recorder = Recorder(document)
            for _ in range(40):
                random_deed(recorder, dice)
            records = recorder.take()
            joined = joined_records(records)
            self.assertLessEqual(len(joined), len(records))
            copy = parse_markup("a<b></b>")
            replayed(copy, joined)
            self.assertEqual(state(copy), state(document))
            taken_back(copy, joined)
            self.assertEqual(linked(copy), linked(parse_markup("a<b></b>")))

    def test_a_removed_node_is_put_again(self):
        document = parse_markup(MARKUP)
        recorder = Recorder(document)
        node = document.nodes[3]
        recorder.remove(node)
        recorder.append(document.nodes[6], node)
        records = recorder.take()
        self.assertEqual(records, (("remove", 3, 1, 1), ("place", 3, 6, 1, None, 0)))
        copy = parse_markup(MARKUP)
        replayed(copy, records)
        self.assertEqual(copy.root.shown(), document.root.shown())
        taken_back(copy, records)
        self.assertEqual(copy.root.shown(), parse_markup(MARKUP).root.shown())

    def test_a_dropped_attribute_comes_back(self):
        document = parse_markup('<a b="c"></a>')
        recorder = Recorder(document)
        recorder.set_attribute(document.nodes[1], "b", None)
        recorder.set_attribute(document.nodes[1], "d", "e")
        taken_back(document, recorder.take())
        self.assertEqual(document.nodes[1].attributes, {"b": "c"})

    def test_records_that_cannot_be(self):
        for row in (("place", 99, 0, 0, None, 0), ("place", 1, 99, 0, None, 0), ("place", 1, 2, 0, 0, 0), ("place", 1, 0, 3, 0, 0),
                    ("place", 0, 1, 0, None, 0), ("place", 1, 3, 0, 0, 0), ("remove", 0, 0, 0), ("remove", 99, 0, 0),
                    ("attribute", 2, "a", None, "b"), ("attribute", 99, "a", None, "b"), ("text", 99, "a", "b"), ("text", 1, "one", "b"),
                    ("make", 1, "b", ""), ("make", 10, "b", ""), ("nothing", 1)):
            document = parse_markup(MARKUP)
            wanted = parse_markup(MARKUP)
            for one in (document, wanted):
                one.nodes[1].attributes["x"] = ""
            wanted.nodes[1].attributes["x"] = "1"
            rows = (("attribute", 1, "x", "", "1"), row, ("attribute", 1, "x", "1", "2"))
            with self.assertRaises(TreeError):
                replayed(document, rows)
            self.assertEqual(state(document), state(wanted), row)

    def test_records_that_cannot_be_taken_back(self):
        for row in (("place", 99, 0, 0, None, 0), ("place", 1, 0, 0, 99, 0), ("place", 1, 0, 0, 3, 0), ("place", 1, 0, 0, 0, 3),
                    ("place", 0, 1, 0, None, 0), ("remove", 1, 99, 0), ("remove", 1, 0, 3), ("remove", 99, 0, 0),
                    ("attribute", 2, "a", None, "b"), ("text", 1, "a", "b"), ("make", 99, "b", ""), ("nothing", 1)):
            document = parse_markup(MARKUP)
            wanted = parse_markup(MARKUP)
            wanted.nodes[1].attributes["x"] = "1"
            rows = (("attribute", 1, "x", "3", "4"), row, ("attribute", 1, "x", "1", "2"))
            with self.assertRaises(TreeError):
                taken_back(document, rows)
            self.assertEqual(state(document), state(wanted), row)

    def test_a_document_of_one_made_node(self):
        document = Document()
        replayed(document, (("make", 1, None, "x"), ("place", 1, 0, 0, None, 0)))
        self.assertEqual(document.root.shown(), ("html", (), ("x",)))
        taken_back(document, (("make", 1, None, "x"), ("place", 1, 0, 0, None, 0)))
        self.assertEqual((document.root.children, document.node_of(1).parent), ([], None))
        self.assertEqual((replayed(document, ()), taken_back(document, ())), (None, None))


class Joined(unittest.TestCase):
    def test_side_by_side(self):
        rows = (("attribute", 1, "a", None, "x"), ("attribute", 1, "a", "x", "y"), ("attribute", 1, "a", "y", None))
        self.assertEqual(joined_records(rows), (("attribute", 1, "a", None, None),))
        rows = (("text", 1, "a", "b"), ("text", 1, "b", "c"))
        self.assertEqual(joined_records(rows), (("text", 1, "a", "c"),))

    def test_with_another_between(self):
        first, last = ("attribute", 1, "a", None, "x"), ("attribute", 1, "a", "x", "y")
        for other in (("attribute", 1, "b", None, "x"), ("attribute", 2, "a", None, "x"), ("text", 1, "a", "b"), ("make", 1, "a", ""),
                      ("place", 1, 0, 0, None, 0), ("remove", 1, 0, 0)):
            self.assertEqual(joined_records((first, other, last)), (first, other, last))

    def test_others_are_not_joined(self):
        for rows in ((("text", 1, "a", "b"), ("text", 2, "b", "c")), (("make", 1, "a", ""), ("make", 2, "a", "")),
                     (("place", 1, 0, 0, 0, 1), ("place", 1, 0, 1, 0, 0)), ()):
            self.assertEqual(joined_records(rows), rows)


if __name__ == "__main__":
    unittest.main()
