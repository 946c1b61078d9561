"""What a page says [26]: roles, names, the outline, the order of the focus, and headings."""

import unittest

from pagestack.markup import parse_markup
from pagestack.outline import FOCUS, ROLES, focus_order, headings, is_left_out, label_for, name_of, order_told, outline, role_of


def first(markup):
    """Return (the first element of a markup, its document)."""
    document = parse_markup(markup)
    return document.root.element_children()[0], document


def by_id(markup, name="x"):
    """Return (the element of an id, its document)."""
    document = parse_markup(markup)
    return document.by_id(name), document


def focused(markup):
    """Return the ids of the elements that can have the focus, in order."""
    document = parse_markup(markup)
    return "".join(document.node_of(number).attribute("id") for number in focus_order(document))


class Roles(unittest.TestCase):
    def test_tables(self):
        self.assertEqual(ROLES, {"a": "link", "button": "button", "img": "image", "li": "item", "ul": "list", "ol": "list", "form": "form", "main": "main", "section": "part",
                                 "h1": "heading", "h2": "heading", "p": "text"})
        self.assertEqual(FOCUS, ("link", "button", "field", "mark"))

    def test_by_tags(self):
        for tag, role in ROLES.items():
            if tag != "a":
                self.assertEqual(role_of(first("<" + tag + ">")[0]), role)
        for tag in ("div", "b", "label", "body", "pre", "br", "script", "h3"):
            node = first("<script></script>")[0] if tag == "script" else first("<" + tag + ">")[0]
            self.assertIsNone(role_of(node), tag)
        self.assertIsNone(role_of(parse_markup("").root))

    def test_links(self):
        self.assertEqual([role_of(first(markup)[0]) for markup in ("<a>", '<a href="">', '<a href="b">', "<a href>")], [None, "link", "link", "link"])

    def test_inputs(self):
        for told, role in (("", "field"), ('type="text"', "field"), ('type="checkbox"', "mark"), ('type="submit"', "button"), ('type="hidden"', None), ('type="other"', "field"), ("type", "field")):
            self.assertEqual(role_of(first("<input " + told + ">")[0]), role, told)

    def test_by_the_attribute(self):
        for markup, role in (('<div role="dialog">', "dialog"), ('<h1 role="none">', None), ('<a role="button">', "button"), ('<input type="hidden" role="field">', "field"),
                             ('<p role="p">', "p"), ('<a href="b" role="none">', None)):
            self.assertEqual(role_of(first(markup)[0]), role, markup)

    def test_what_is_left_out(self):
        for markup, wanted in (('<p id="x">', False), ('<p id="x" hidden>', True), ('<p id="x" hidden="no">', True), ('<div hidden><b><p id="x">', True), ('<div><p hidden></p><p id="x">', False),
                               ('<script id="x"></script>', True), ('<style id="x"></style>', True), ('<title id="x">', False)):
            self.assertIs(is_left_out(by_id(markup)[0]), wanted, markup)
        document = parse_markup("<script></script><p></p>")
        script, other = document.root.children
        document.append(script, other)
        self.assertIs(is_left_out(other), True)


class Names(unittest.TestCase):
    def named(self, markup, wanted):
        node, document = by_id(markup)
        self.assertEqual(name_of(node, document), wanted, markup)

    def test_in_their_order(self):
        told = (' label="L"', ' labelledby="o"', ' alt="A"', ' title="T"')
        rest = '<b id="o">by <i>O</i></b><label for="x">for</label>'
        for place, wanted in enumerate(("L", "by O", "A", "T")):
            self.named('<button id="x"' + "".join(told[place:]) + ">own</button>" + rest, wanted)
            self.named('<input id="x"' + "".join(told[place:]) + ">" + rest, wanted)
        self.named('<button id="x">own</button>' + rest, "own")
        self.named('<button id="x"></button>' + rest, "for")
        self.named('<button id="x"></button>', "")

    def test_empty_ones(self):
        rest = ' alt="A" title="T">own</p><b id="o"></b><b id="">e</b><label for="x">for</label>'
        for told, wanted in ((' label=""', ""), (" label", ""), (' label="  "', ""), (' labelledby="o"', ""), (' labelledby=""', "e"), (' label="" labelledby="x"', "")):
            self.named('<p id="x"' + told + rest, wanted)
        self.named('<p id="x" labelledby="o" alt="A">own</p><b id="o"> \n </b>', "")
        self.named('<p id="x" alt="" title="T">own</p>', "T")
        self.named('<p id="x" alt="" title="">own</p>', "own")
        self.named('<p id="x" alt title> </p><label for="x">for</label>', "for")

    def test_labelledby_with_the_id_of_no_element(self):
        label = '<label for="x">for</label>'
        for told in (' labelledby="gone"', ' labelledby=""', " labelledby", ' labelledby="X"'):
            for more, wanted in ((' label="L"', "L"), (' alt="A" title="T"', "A"), (' alt="" title="T"', "T"), (' title="T"', "T"), ("", "own")):
                self.named('<p id="x"' + told + more + "> own </p>" + label, wanted)
            self.named('<h2 id="x"' + told + "> two\n words </h2>", "two words")
            for tag in ("input", "img", 'input type="checkbox"', 'input type="submit"'):
                self.named("<" + tag + ' id="x"' + told + ' alt="A">' + label, "A")
                self.named("<" + tag + ' id="x"' + told + ">" + label, "for")
                self.named("<" + tag + ' id="x"' + told + ">", "")

    def test_labelledby_with_an_element_that_is_out_of_the_tree(self):
        node, document = by_id('<img id="x" labelledby="o" alt="A"><b id="o">by</b>')
        self.assertEqual(name_of(node, document), "by")
        document.remove(document.by_id("o"))
        self.assertEqual(name_of(node, document), "A")

    def test_fields_marks_and_images_are_not_called_by_their_text(self):
        for markup in ('<div id="x" role="field">own</div>', '<div id="x" role="mark">own</div>', '<div id="x" role="image">own</div>'):
            self.named(markup, "")
            self.named(markup + '<label for="x">for</label>', "for")
        for markup in ('<input id="x" value="v">', '<img id="x">', '<input id="x" type="checkbox">', '<input id="x" type="submit" value="v">'):
            self.named(markup + '<label for="x">for</label>', "for")
            self.named(markup, "")
        self.named('<div id="x" role="button">own</div><label for="x">for</label>', "own")
        self.named('<div id="x">own</div>', "own")

    def test_blanks(self):
        self.named('<p id="x"> a \n\n b<i> c</i>d </p>', "a b cd")
        self.named('<p id="x" label=" a  b\n">own</p>', "a b")
        self.named('<p id="x" labelledby="o">own</p><b id="o"> a\nb </b>', "a b")
        self.named('<p id="x" title="  t\n">own</p>', "t")
        self.named('<input id="x"><label for="x">\n a  b </label>', "a b")

    def test_labels(self):
        node, document = by_id('<p for="x">no</p><label>no</label><label for="y">no</label><div><label for="x">a</label></div><label for="x">b</label><input id="x">')
        self.assertEqual(label_for(node, document), "a")
        for markup in ('<label>no</label><input name="x">', '<label for>no</label><input>', '<label for="">no</label><input>'):
            document = parse_markup(markup)
            self.assertEqual(label_for(document.root.element_children()[1], document), "")
        node, document = by_id('<input id="x"><label for="x"></label><label for="x">b</label>')
        self.assertEqual((label_for(node, document), name_of(node, document)), ("", ""))

    def test_the_text_of_a_label_stands_as_it_is(self):
        for text, name in ((" two  words ", "two words"), ("\na\n\n b\n", "a b"), ("  \n ", ""), (" a<i>  b</i>", "a b")):
            for tag in ("input", "img", "button"):
                node, document = by_id('<label for="x">' + text + "</label><" + tag + ' id="x">')
                self.assertEqual((label_for(node, document), name_of(node, document)), (text.replace("<i>", "").replace("</i>", ""), name))


class Outlines(unittest.TestCase):
    def test_levels(self):
        markup = '<main label="m"><div><h1>One</h1><ul title="u"><li><a href="b">two</a></li></ul></div><section><p>x<b role="none"><img alt="i"></b></p></section></main><p>z</p>'
        self.assertEqual(outline(parse_markup(markup)), ((0, "main", "m"), (1, "heading", "One"), (1, "list", "u"), (2, "item", "two"), (3, "link", "two"), (1, "part", "x"), (2, "text", "x"),
                                                         (3, "image", "i"), (0, "text", "z")))
        self.assertEqual(outline(parse_markup("<div>a</div>")), ())

    def test_hidden_ones(self):
        markup = '<p hidden>a</p><div hidden><p>b</p></div><script>c</script><style>d</style><section label="s"><p hidden></p><p>e</p></section>'
        self.assertEqual(outline(parse_markup(markup)), ((0, "part", "s"), (1, "text", "e")))

    def test_what_is_nothing_in_particular_counts_no_level(self):
        self.assertEqual(outline(parse_markup('<a><p>x</p></a><form role="none"><p>y</p></form><form label="f"><p>z</p></form>')),
                         ((0, "text", "x"), (0, "text", "y"), (0, "form", "f"), (1, "text", "z")))


class Focus(unittest.TestCase):
    def test_what_can_have_it(self):
        markup = ('<a id="a" href="b"></a><a id="b"></a><button id="c"></button><input id="d"><input id="e" type="checkbox"><input id="f" type="hidden"><input id="g" type="submit"><p id="h"></p>'
                  '<div id="i" role="link"></div><button id="j" role="none"></button><div id="k" order="0"></div>')
        self.assertEqual(focused(markup), "acdegik")

    def test_orders(self):
        self.assertEqual(focused('<input id="a"><p id="b" order="2"></p><p id="c" order="1"></p><input id="d" order="0"><p id="e" order="2"></p><input id="f" order="10">'), "cbefad")
        self.assertEqual(focused('<input id="a" order="-1"><input id="b" order="-0"><p id="c" order="-3"></p><input id="d">'), "bd")

    def test_orders_that_are_no_numbers(self):
        self.assertEqual(focused('<input id="a" order="x"><p id="b" order="x"></p><p id="c" order=""></p><input id="d" order="12345"><p id="e" order="9999"></p>'), "ead")
        for text, number in (("1", 1), ("-1", -1), ("0", 0), ("-0", 0), ("0012", 12), ("9999", 9999), ("-9999", -9999), ("10000", None), ("00001", None), ("-10000", None), ("", None), ("-", None),
                             ("+1", None), ("1.5", None), (" 1", None), ("1 ", None), ("--1", None), ("a", None), ("\u0661", None)):
            node, document = first("<p></p>")
            document.set_attribute(node, "order", text)
            self.assertEqual(order_told(node), number, text)
        self.assertIsNone(order_told(first("<p>")[0]))

    def test_what_is_off_or_hidden(self):
        self.assertEqual(focused('<input id="a" off><input id="b" off="no" order="1"><input id="c" hidden><div hidden><input id="d" order="1"></div><div off><input id="e"></div>'), "e")


class Headings(unittest.TestCase):
    def test_headings(self):
        for markup, wanted in (("<h1>a</h1><h2>b</h2><h2>c</h2><h1>d</h1>", (((1, "a"), (2, "b"), (2, "c"), (1, "d")), 0)), ("", ((), 0)), ("<h1>a</h1>", (((1, "a"),), 0)),
                               ("<h2>a</h2><h1>b</h1><h2>c</h2>", (((2, "a"), (1, "b"), (2, "c")), 1)), ("<h2>a</h2><h2>b</h2>", (((2, "a"), (2, "b")), 1)),
                               ("<h1 hidden>a</h1><h2>b</h2>", (((2, "b"),), 1)), ('<h1 role="none">a</h1><h2 title="t">b</h2>', (((2, "t"),), 1)),
                               ('<h1>a</h1><div role="heading">b</div><h2 role="text">c</h2>', (((1, "a"), (2, "b")), 0)), ("<div hidden><h2>a</h2></div><h1>b</h1>", (((1, "b"),), 0))):
            self.assertEqual(headings(parse_markup(markup)), wanted, markup)


if __name__ == "__main__":
    unittest.main()
