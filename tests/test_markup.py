"""Markup [2]: texts to trees and back; what is no markup is refused."""

import random
import unittest

from pagestack.errors import MarkupError
from pagestack.markup import TAG_SIGNS, escaped, inner_markup, markup_of, parse_markup, with_entities
from pagestack.nodes import Document

BLOCKS = ("html", "body", "div", "p", "ul", "ol", "li", "h1", "h2", "section", "form", "hr", "pre", "main")
VOID = ("br", "hr", "img", "input", "meta", "link")


def tree(text):
    """Return what is below the root of a text, shown without attributes where there are none."""
    return [short(node) for node in parse_markup(text).root.children]


def short(node):
    """Return a text as it is, an element as [tag, attributes if there are some, children ..]."""
    if node.is_text():
        return node.text
    told = [node.attributes] if node.attributes else []
    return [node.tag, *told, *[short(child) for child in node.children]]


def with_joined_texts(shown):
    """Return a shown tree in which texts side by side are one."""
    if isinstance(shown, str):
        return shown
    tag, attributes, children = shown
    rows = []
    for child in children:
        if isinstance(child, str) and rows and isinstance(rows[-1], str):
            rows[-1] += child
        else:
            rows.append(with_joined_texts(child))
    return (tag, attributes, tuple(rows))


class Entities(unittest.TestCase):
    def test_the_four_are_put_in(self):
        self.assertEqual(with_entities("a &lt;&gt; &amp;&quot; b"), 'a <> &" b')
        self.assertEqual(with_entities("&amp;lt;"), "&lt;")
        self.assertEqual(with_entities(""), "")
        self.assertEqual(with_entities("a;b > '"), "a;b > '")

    def test_others_are_refused(self):
        for text in ("&", "& ", "a & b", "&;", "&lt", "&lt &gt;", "&LT;", "&nbsp;", "&#60;", "&apos;", "&amp&;", "&lt ;"):
            with self.assertRaises(MarkupError, msg=text):
                with_entities(text)
            with self.assertRaises(MarkupError, msg=text):
                parse_markup("<p>" + text)
            with self.assertRaises(MarkupError, msg=text):
                parse_markup(f'<p a="{text}">')

    def test_escaping(self):
        self.assertEqual(escaped('<a b="c"> & &lt;'), "&lt;a b=&quot;c&quot;&gt; &amp; &amp;lt;")
        for text in ("", "plain", '<>&"', "&amp;", "a&lt;b"):
            self.assertEqual(with_entities(escaped(text)), text)


class Trees(unittest.TestCase):
    def test_elements_texts_and_attributes(self):
        self.assertEqual(tree(""), [])
        self.assertEqual(tree("hello"), ["hello"])
        self.assertEqual(tree("a<b>c</b>d"), ["a", ["b", "c"], "d"])
        self.assertEqual(tree('<p class="x y" hidden id="1">t'), [["p", {"class": "x y", "hidden": "", "id": "1"}, "t"]])
        self.assertEqual(tree('<a-1 2-b="">'), [["a-1", {"2-b": ""}]])
        self.assertEqual(tree("<b ><i  a  ></i  ></b >"), [["b", ["i", {"a": ""}]]])
        self.assertEqual(tree('<b a="x\ny>z<"></b\n>'), [["b", {"a": "x\ny>z<"}]])
        self.assertEqual(tree('<b\n a="1"\n b>'), [["b", {"a": "1", "b": ""}]])

    def test_texts_and_values_have_entities(self):
        self.assertEqual(tree('<b t="&lt;&quot;">&lt;b&gt; &amp;amp;</b>'), [["b", {"t": '<"'}, "<b> &amp;"]])

    def test_signs_that_have_no_meaning_in_texts(self):
        self.assertEqual(tree("a > b \" ' / = ;"), ["a > b \" ' / = ;"])

    def test_numbers_in_the_order_of_making(self):
        document = parse_markup("<p>a<b>c</b></p> <!-- x --><div>d</div>")
        rows = [(node.number, node.tag or node.text) for node in document.root.all_nodes()]
        self.assertEqual(rows, [(0, "html"), (1, "p"), (2, "a"), (3, "b"), (4, "c"), (5, "div"), (6, "d")])
        self.assertEqual(sorted(document.nodes), [0, 1, 2, 3, 4, 5, 6])
        self.assertEqual(document.next_number, 7)

    def test_what_has_no_children_and_no_end(self):
        for tag in VOID:
            self.assertEqual(tree(f'<b>x<{tag} a="1">y</b>z'), [["b", "x", [tag, {"a": "1"}], "y"], "z"])
            with self.assertRaises(MarkupError):
                parse_markup(f"<{tag}></{tag}>")

    def test_raw_texts(self):
        for tag in ("script", "style"):
            raw = 'if (a < b && "&lt;") { <b> </p> <!-- x'
            self.assertEqual(tree(f'<{tag} a="&amp;">{raw}</{tag}>y'), [[tag, {"a": "&"}, raw], "y"])
            self.assertEqual(tree(f"<{tag}></{tag}>"), [[tag]])
            self.assertEqual(tree(f"<{tag}> \n</{tag}>"), [[tag, " \n"]])
            self.assertEqual(tree(f"<{tag}>a</{tag} ></{tag}>"), [[tag, f"a</{tag} >"]])
        self.assertEqual(tree("<script></style></script>"), [["script", "</style>"]])

    def test_remarks_count_for_nothing_but_part_texts(self):
        self.assertEqual(tree("a<!-- <b> & -- > -->b"), ["a", "b"])
        self.assertEqual(tree("a<!---->b<!---->"), ["a", "b"])
        self.assertEqual(tree("<p>a<!-- x --> <!-- y -->b"), [["p", "a", "b"]])
        self.assertEqual(tree("<b>a<!-- x --> <!-- y -->c"), [["b", "a", " ", "c"]])
        self.assertEqual(tree("<p><!-- x --></p>"), [["p"]])
        self.assertEqual(tree("<!--a-->-->"), ["-->"])

    def test_texts_of_blanks_are_left_out_in_blocks_alone(self):
        for tag in BLOCKS:
            if tag not in ("html", "hr"):
                self.assertEqual(tree(f"<{tag}> \n <b>x</b>\n</{tag}>"), [[tag, ["b", "x"]]], tag)
                self.assertEqual(tree(f"<{tag}> x \n</{tag}>"), [[tag, " x \n"]], tag)
        self.assertEqual(tree(" \n<b>x</b> "), [["b", "x"]])
        for tag in ("b", "span", "a", "h3", "table", "title", "head", "button"):
            self.assertEqual(tree(f"<{tag}> \n<i></i> </{tag}>"), [[tag, " \n", ["i"], " "]], tag)

    def test_where_a_text_of_blanks_stands_is_where_it_is_open(self):
        self.assertEqual(tree("<p><b> <p>x</p> </b> </p>"), [["p", ["b", " ", ["p", "x"], " "]]])
        self.assertEqual(tree("<b><br> <hr> </b> <hr> "), [["b", ["br"], " ", ["hr"], " "], ["hr"]])

    def test_a_block_ends_a_p_that_is_innermost(self):
        for tag in BLOCKS:
            if tag not in ("html", "hr", "li"):
                self.assertEqual(tree(f"<p>a<{tag}>b"), [["p", "a"], [tag, "b"]])
                self.assertEqual(tree(f"<p>a<b><{tag}>c"), [["p", "a", ["b", [tag, "c"]]]])
        self.assertEqual(tree("<p>a<hr>b"), [["p", "a"], ["hr"], "b"])
        self.assertEqual(tree("<p>a<li>b"), [["p", "a"], ["li", "b"]])
        self.assertEqual(tree("<p>a<i>b</i><br>c"), [["p", "a", ["i", "b"], ["br"], "c"]])
        self.assertEqual(tree("<p><b>x</b><p>y"), [["p", ["b", "x"]], ["p", "y"]])

    def test_a_li_ends_the_nearest_open_li(self):
        self.assertEqual(tree("<ul><li>a<li>b"), [["ul", ["li", "a"], ["li", "b"]]])
        self.assertEqual(tree("<ul><li><b>a<i><li>b"), [["ul", ["li", ["b", "a", ["i"]]], ["li", "b"]]])
        self.assertEqual(tree("<ul><li><p>a<li>b"), [["ul", ["li", ["p", "a"]], ["li", "b"]]])
        self.assertEqual(tree("<li><div><li>b"), [["li", ["div"]], ["li", "b"]])

    def test_a_li_in_a_list_in_a_li(self):
        for inner in ("ul", "ol"):
            text = f"<ul><li>a<{inner}><li>b<li>c</{inner}><li>d</ul>"
            wanted = [["ul", ["li", "a", [inner, ["li", "b"], ["li", "c"]]], ["li", "d"]]]
            self.assertEqual(tree(text), wanted)
            self.assertEqual(tree(f"<li><{inner}><div><li>x"), [["li", [inner, ["div", ["li", "x"]]]]])

    def test_an_end_ends_the_innermost_of_its_tag_and_those_within(self):
        self.assertEqual(tree("<div><div><b><i>x</div>y"), [["div", ["div", ["b", ["i", "x"]]], "y"]])
        self.assertEqual(tree("<b><i>x</b>y"), [["b", ["i", "x"]], "y"])

    def test_what_inputs_have_at_first(self):
        nodes = parse_markup('<input value="a&amp;" checked><input><input checked="no"><p value="x" checked>').root.children
        rows = [(node.value, node.checked) for node in nodes]
        self.assertEqual(rows, [("a&", True), ("", False), ("", True), ("", False)])


class Refusals(unittest.TestCase):
    def refuse(self, *texts):
        for text in texts:
            with self.assertRaises(MarkupError, msg=text):
                parse_markup(text)

    def test_a_tag_html(self):
        self.refuse("<html></html>", "<html>", "<p></html>", "<html a>")

    def test_ends_without_a_beginning(self):
        self.refuse("</p>", "<p></p></p>", "<b></i></b>", "<p><div></p>", "<li><li></li></li>", "</script>", "</br>")

    def test_attributes_told_twice(self):
        self.refuse('<p a a>', '<p a="1" b a="1">', '<br id id="">')

    def test_signs_that_do_not_fit(self):
        self.refuse("<", "a < b", "<>", "< p>", "<p", "<p ", "<p a", "<p a=", '<p a="', '<p a="x', '<p a="x"', "<p a=x>")
        self.refuse("<P>", "<p A>", "<p a='x'>", '<p "x">', ' b>c<p a="x', '<p ="x">', '<p a = "x">', '<p a= "x">', "<p/>", "<br />")
        self.refuse('<p a="1"b="2">', '<p a="1"b>', "<p_a>", "<p a_b>", "<p <b>>", "<p\t>", "<!doctype>", "<!- x -->")
        self.refuse("</", "<p></", "<p></>", "<p></p", "<p></ p>", "<p></p a>", "<p></P>", "<p></p/>", "<?p?>")

    def test_what_does_not_end(self):
        self.refuse("<!--", "a<!-- b ->", "<!-->", "<!--->", "<script>", "<script>a</script", "<style>a</script>")
        self.refuse("<style>a</style >", "<script>a</SCRIPT>")

    def test_sixty_open_elements(self):
        most = parse_markup("<b>" * 59 + "x")
        self.assertEqual(len(most.root.all_nodes()), 61)
        self.assertEqual(len(most.node_of(60).path()), 61)
        self.refuse("<b>" * 60, "<b>" * 59 + "<br>", "<b>" * 59 + "<script></script>", "<b>" * 61)
        parse_markup("<b>" * 58 + "<br><script>a</script><b></b><b></b>")
        parse_markup("<b>" * 58 + "<p><p>")
        parse_markup("<b>" * 58 + "<li><li>")
        parse_markup("<p>" * 500)


class Writing(unittest.TestCase):
    def test_written_markup(self):
        document = parse_markup('<p id="x" class="a&quot;b" hidden>1 &lt; 2 > "q"<br></p><b></b><style>p > b & {}</style>')
        inside = '<p class="a&quot;b" hidden="" id="x">1 &lt; 2 &gt; &quot;q&quot;<br></p><b></b><style>p > b & {}</style>'
        self.assertEqual(inner_markup(document.root), inside)
        self.assertEqual(markup_of(document.root), "<html>" + inside + "</html>")
        texts = [node for node in document.root.all_nodes() if node.is_text()]
        self.assertEqual([markup_of(text) for text in texts], ["1 &lt; 2 &gt; &quot;q&quot;", "p > b & {}"])
        self.assertEqual(inner_markup(texts[0]), "")
        self.assertEqual(inner_markup(document.root.children[0].children[1]), "")

    def test_a_text_that_stands_alone(self):
        document = Document()
        self.assertEqual(markup_of(document.make(None, "<&>")), "&lt;&amp;&gt;")
        self.assertEqual(markup_of(document.make("br")), "<br>")

    def test_deep_trees_are_written(self):
        document = Document()
        node = document.root
        for _ in range(99):
            child = document.make("b")
            document.append(node, child)
            node = child
        self.assertEqual(inner_markup(document.root), "<b>" * 99 + "</b>" * 99)
        self.assertEqual(document.root.shown()[0], "html")

    def reads_back(self, text):
        document = parse_markup(text)
        again = parse_markup(inner_markup(document.root))
        self.assertEqual(again.root.shown(), with_joined_texts(document.root.shown()), text)
        self.assertEqual(inner_markup(again.root), inner_markup(document.root))

    def test_written_markup_reads_back(self):
        self.reads_back("<ul><li>a<p>b<ul><li>c<li>d</ul><li>e<!-- -->f</ul><p> <i> </i><!-- --> <div>&amp;lt;")
        self.reads_back('<script>"<b>" && 1</script><b a b="&quot;&lt;">x<!-- -->y</b>')

    def test_any_signs_are_refused_or_read_back(self):
        chance = random.Random(3)
        bits = ["<p>", "<b>", "<li>", "<ul>", "</p>", "</b>", "</ul>", " ", "\n", "x", "&lt;", "&", "<!-- -->", "<hr>",
                "<br a>", '<i b="&gt;">', "<script>", "</script>", "<", ">", '"', "<div c d>", "</div >", "-->", "=", "a"]
        read = 0
        for _ in range(4000):
            text = "".join(chance.choice(bits) for _ in range(chance.randrange(1, 12)))
            try:
                parse_markup(text)
            except MarkupError:
                continue
            read += 1
            self.reads_back(text)
        self.assertGreater(read, 500)

    def test_signs_of_tags(self):
        self.assertEqual(TAG_SIGNS, "abcdefghijklmnopqrstuvwxyz0123456789-")


if __name__ == "__main__":
    unittest.main()
