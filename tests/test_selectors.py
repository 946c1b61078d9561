"""Selectors [4]: what they fit, what they weigh, their texts, and what is none."""

import itertools
import random
import unittest

from pagestack.errors import StyleError
from pagestack.markup import parse_markup
from pagestack.nodes import Document
from pagestack.selectors import (Selector, SelectorReader, Simple, element_before, find_all, has_state,
                                 parse_selectors, selector_text, simple_text)


def found(markup, text):
    """Return the ids (or tags) of what a text's selectors find."""
    return [node.attribute("id") or node.tag for node in find_all(parse_markup(markup).root, text)]


def one(text):
    """Return the only selector of a text."""
    selectors = parse_selectors(text)
    assert len(selectors) == 1
    return selectors[0]


class Parts(unittest.TestCase):
    def test_tags_and_any(self):
        markup = "x<p><b>t</b></p><b-1></b-1>"
        self.assertEqual(found(markup, "b"), ["b"])
        self.assertEqual(found(markup, "*"), ["html", "p", "b", "b-1"])
        self.assertEqual(found(markup, "html"), ["html"])
        self.assertEqual(found(markup, "b-1"), ["b-1"])
        self.assertEqual(found(markup, "i_1"), [])

    def test_ids_classes_and_attributes(self):
        markup = '<p id="a" class="x y-1"></p><p id="b" class="x" t></p><b id="c" t="u v"></b>'
        self.assertEqual(found(markup, "#b"), ["b"])
        self.assertEqual(found(markup, "p#c"), [])
        self.assertEqual(found(markup, ".x"), ["a", "b"])
        self.assertEqual(found(markup, ".y-1.x"), ["a"])
        self.assertEqual(found(markup, ".y"), [])
        self.assertEqual(found(markup, "[t]"), ["b", "c"])
        self.assertEqual(found(markup, '[t=""]'), ["b"])
        self.assertEqual(found(markup, '[t="u v"]'), ["c"])
        self.assertEqual(found(markup, '[class="x"]'), ["b"])
        self.assertEqual(found(markup, '.x[t]#b:empty[class="x"]'), ["b"])

    def test_first_and_last_children(self):
        markup = '<p id="a">x<b id="b"></b>y<i id="c"></i>z</p><p id="d"></p>'
        self.assertEqual(found(markup, ":first-child"), ["a", "b"])
        self.assertEqual(found(markup, ":last-child"), ["c", "d"])
        self.assertEqual(found(markup, "html:first-child"), [])
        self.assertEqual(found(markup, ":first-child:last-child"), [])
        self.assertEqual(found("<b>x</b>", ":first-child:last-child"), ["b"])

    def test_checked_and_empty(self):
        markup = '<input id="a" checked><input id="b"><p id="c" checked></p><p id="d">x</p><p id="e"><!-- x --></p>'
        self.assertEqual(found(markup, ":checked"), ["a"])
        self.assertEqual(found(markup, "p:empty"), ["c", "e"])
        document = parse_markup(markup)
        document.by_id("b").checked = True
        document.by_id("a").checked = False
        self.assertEqual(find_all(document.root, ":checked"), [document.by_id("b")])
        document.append(document.by_id("c"), document.make(None, ""))
        self.assertEqual(find_all(document.root, "p:empty"), [document.by_id("e")])

    def test_states(self):
        document = parse_markup("<p></p>")
        node = document.root.children[0]
        states = ("first-child", "last-child", "checked", "empty")
        self.assertEqual([has_state(node, state) for state in states], [True, True, False, True])
        self.assertEqual([has_state(document.root, state) for state in states], [False] * 4)
        self.assertEqual([has_state(document.make("b"), state) for state in states], [False, False, False, True])

    def test_texts_are_fitted_by_nothing(self):
        document = parse_markup("x")
        self.assertFalse(one("*").fits(document.root.children[0]))
        self.assertFalse(Simple(None, None, (), (), ()).fits(document.root.children[0]))

    def test_a_simple_selector_as_it_is_told(self):
        simple = Simple("p", "x", ("a", "b"), (("t", None), ("u", "")), ("empty",))
        self.assertEqual(simple.shown(), ("p", "x", ("a", "b"), (("t", None), ("u", "")), ("empty",)))
        self.assertEqual((simple.tag, simple.name), ("p", "x"))
        self.assertEqual(simple.weight(), (1, 5, 1))
        self.assertEqual(simple_text(simple), 'p#x.a.b[t][u=""]:empty')
        self.assertEqual(Simple(None, None, (), (), ()).weight(), (0, 0, 0))


class Ways(unittest.TestCase):
    def test_below_child_and_next(self):
        markup = '<div id="a"><p id="b"><b id="c"></b></p>x<b id="d"></b><i id="e"></i></div><b id="f"></b>'
        self.assertEqual(found(markup, "div b"), ["c", "d"])
        self.assertEqual(found(markup, "div > b"), ["d"])
        self.assertEqual(found(markup, "div>b"), ["d"])
        self.assertEqual(found(markup, "p + b"), ["d"])
        self.assertEqual(found(markup, "p+b"), ["d"])
        self.assertEqual(found(markup, "b + i"), ["e"])
        self.assertEqual(found(markup, "p + i"), [])
        self.assertEqual(found(markup, "b + b"), [])
        self.assertEqual(found(markup, "div + b"), ["f"])
        self.assertEqual(found(markup, "html > div > p > b"), ["c"])
        self.assertEqual(found(markup, "html b"), ["c", "d", "f"])
        self.assertEqual(found(markup, "b html"), [])

    def test_all_ways_are_tried(self):
        markup = '<section><div class="x"><ul><div class="y"><ul><b id="a"></b></ul></div></ul></div></section>'
        self.assertEqual(found(markup, "section > div ul b"), ["a"])
        self.assertEqual(found(markup, ".x > ul b"), ["a"])
        self.assertEqual(found(markup, "section > .x ul > b"), ["a"])
        self.assertEqual(found(markup, "section > ul b"), [])
        next_to = '<i></i><div><div><b id="a"></b></div></div>'
        self.assertEqual(found(next_to, "i + div b"), ["a"])
        self.assertEqual(found(next_to, "i + div > b"), [])

    def test_against_all_choices(self):
        chance = random.Random(11)
        for _ in range(300):
            document = Document()
            nodes = [document.root]
            for _ in range(9):
                node = document.make(chance.choice(["a", "b", None]))
                document.append(chance.choice([other for other in nodes if not other.is_text()]), node)
                nodes.append(node)
            text = chance.choice("ab*") + "".join(chance.choice([" ", " > ", " + "]) + chance.choice("ab*")
                                                  for _ in range(chance.randrange(1, 4)))
            selector = one(text)
            wanted = [node for node in document.root.all_nodes() if self.fits_by_choice(selector, node, nodes)]
            self.assertEqual(find_all(document.root, text), wanted, text)

    def fits_by_choice(self, selector, node, nodes):
        parts = [selector.first] + [row[1] for row in selector.rows]
        for choice in itertools.product(nodes, repeat=len(selector.rows)):
            line = list(choice) + [node]
            if all(part.fits(other) for part, other in zip(parts, line)) and all(
                    self.stand(row[0], line[at], line[at + 1]) for at, row in enumerate(selector.rows)):
                return True
        return False

    def stand(self, sign, one_node, other):
        if sign == " ":
            return one_node in other.path()[:-1]
        if sign == ">":
            return other.parent == one_node
        if other.parent is None:
            return False
        row = [node for node in other.parent.children if not node.is_text()]
        return row.index(other) > 0 and row[row.index(other) - 1] == one_node

    def test_long_selectors_in_deep_trees_end_soon(self):
        document = Document()
        node = document.root
        for _ in range(99):
            child = document.make("b")
            document.append(node, child)
            node = child
        self.assertEqual(find_all(document.root, "i" + " b" * 12), [])
        self.assertEqual(len(find_all(document.root, "b" + " b" * 12)), 87)

    def test_the_element_before(self):
        document = parse_markup("x<b></b>y<i></i>z")
        rows = document.root.children
        self.assertIsNone(element_before(rows[1]))
        self.assertEqual(element_before(rows[3]), rows[1])
        self.assertIsNone(element_before(document.root))
        self.assertIsNone(element_before(document.make("p")))


class WeightsAndTexts(unittest.TestCase):
    def test_weights(self):
        wanted = {"*": (0, 0, 0), "p": (0, 0, 1), "#a": (1, 0, 0), ".a": (0, 1, 0), "[a]": (0, 1, 0), ":empty": (0, 1, 0),
                  'p#a.b.c[d="e"]:checked:empty': (1, 5, 1), "p #a > .b + i": (1, 1, 2), "* *": (0, 0, 0), ".a.a": (0, 2, 0)}
        for text, weight in wanted.items():
            self.assertEqual(one(text).weight(), weight, text)

    def test_texts(self):
        wanted = {"*": "*", "p": "p", "*.a": ".a", "p:empty[t].b#a": "p#a.b[t]:empty", " a  b ": "a b", "a>b": "a > b",
                  "a  +  b": "a + b", '[t="a, b > ]"]': '[t="a, b > ]"]', "a\n>\nb\nc": "a > b c", ".b_1-.a": ".b_1-.a",
                  ":last-child:first-child": ":last-child:first-child", "* > *": "* > *", "a *": "a *"}
        for text, wanted_text in wanted.items():
            self.assertEqual(selector_text(one(text)), wanted_text)
            self.assertEqual(one(wanted_text).shown(), one(text).shown())

    def test_shown(self):
        shown = one('p#a > .b[t="u"] :empty').shown()
        rows = ((">", (None, None, ("b",), (("t", "u"),), ())), (" ", (None, None, (), (), ("empty",))))
        self.assertEqual(shown, (("p", "a", (), (), ()), rows))
        selector = Selector(Simple("a", None, (), (), ()), (("+", Simple("b", None, (), (), ())),))
        self.assertEqual(selector_text(selector), "a + b")
        self.assertEqual((selector.first.tag, selector.rows[0][0], selector.rows[0][1].tag), ("a", "+", "b"))

    def test_lists(self):
        self.assertEqual([selector_text(row) for row in parse_selectors('a , b>c,[t=","],*')], ["a", "b > c", '[t=","]', "*"])
        self.assertEqual(found('<i id="a"></i><b id="b" class="x"></b><p id="c"></p>', "p, .x, b, p"), ["b", "c"])

    def test_finding_goes_over_the_tree_of_a_node(self):
        document = parse_markup("<div><p><b></b></p></div><b></b>")
        node = document.root.children[0].children[0]
        self.assertEqual(find_all(node, "b"), [node.children[0]])
        self.assertEqual(find_all(node, "div > p"), [node])
        self.assertEqual(find_all(node, "div"), [])

    def test_thirteen_parts(self):
        for sign in (" ", " > ", "+"):
            text = sign.join(["a"] * 13)
            self.assertEqual(len(one(text).rows), 12)
            with self.assertRaises(StyleError):
                parse_selectors(text + sign + "a")
            self.assertEqual(len(parse_selectors(text + ", " + text)), 2)


class Refusals(unittest.TestCase):
    def test_what_is_no_selector(self):
        texts = ["", " ", ",", "a,", ",a", "a,,b", "a >", "> a", "a > > b", "a + > b", "+ a", "a ~ b", "a ! b", "a!", "A", "aB",
                 "#", "a#", "#a#b", ".", "a..b", ".A", "#a a#b#c", ":", ":hover", ":first", ":nth-child(1)", "::empty", ":empty()",
                 "[", "[]", "[t", "[t=]", "[t=u]", "[t='u']", '[t=u"]', '[t="u]', '[t="u"', '[="u"]', "[ t]", "[t ]", '[t= "u"]',
                 '[t ="u"]', '[t="u" ]', "[T]", "a*", "**", "*a", "#a*", "1.5.", "a{", "a}", "a;", '"a"', "@width", "a\tb", "(a)"]
        document = parse_markup("<a></a>")
        for text in texts:
            with self.assertRaises(StyleError, msg=text):
                parse_selectors(text)
            with self.assertRaises(StyleError, msg=text):
                find_all(document.root, text)


class Reading(unittest.TestCase):
    def test_a_reader(self):
        reader = SelectorReader("ab")
        self.assertEqual((reader.text, reader.place, reader.here()), ("ab", 0, "a"))
        reader.place = 2
        self.assertEqual(reader.here(), "")

    def test_attributes(self):
        for text, wanted, place in (("t]", ("t", None), 2), ('t="]"] b', ("t", "]"), 6), ('a-_1=""]', ("a-_1", ""), 8)):
            reader = SelectorReader(text)
            self.assertEqual(reader.attribute(), wanted)
            self.assertEqual(reader.place, place)

    def test_a_refused_attribute_moves_nothing(self):
        for text in ("", "]", "t", "t=", "t=]", 't="', 't="u', 't="u"', 't="u" ]', "t ]", "T]", "t=u]"):
            reader = SelectorReader(text)
            with self.assertRaises(StyleError, msg=text):
                reader.attribute()
            self.assertEqual(reader.place, 0)
        reader = SelectorReader(']t="u')
        reader.place = 1
        with self.assertRaises(StyleError):
            reader.attribute()
        self.assertEqual(reader.place, 1)


if __name__ == "__main__":
    unittest.main()
