"""Boxes and layout [7] [9]: which boxes there are, where they stand, and how great they are."""

import unittest

from pagestack.cascade import styles_of
from pagestack.layout import lay_out
from pagestack.markup import parse_markup
from pagestack.styles import parse_styles


def laid(markup, styles="", width=40):
    """Return (document, the root's box) of a page."""
    document = parse_markup(markup)
    return document, lay_out(document, styles_of(document, parse_styles(styles), width), width)


def all_boxes(box):
    """Return a box and all in it, in order."""
    found = [box]
    for child in box.children:
        found.extend(all_boxes(child))
    return found


def places(markup, styles="", width=40):
    """Return (left, top, width, height) of the boxes of the elements with an id, by id."""
    _, root = laid(markup, styles, width)
    found = {}
    for box in all_boxes(root):
        if box.node is not None and box.node.attribute("id") is not None:
            found[box.node.attribute("id")] = (box.left, box.top, box.width, box.height)
    return found


def shape(box):
    """Return what a box is: its id, tag or None, its pieces' texts, and its children."""
    name = None if box.node is None else box.node.attribute("id") or box.node.tag
    return (name, "".join(piece.text or "|" for piece in box.pieces), [shape(child) for child in box.children])


def root_shape(markup, styles=""):
    """Return what the root's box is."""
    return shape(laid(markup, styles)[1])


class Boxes(unittest.TestCase):
    def test_lines_of_an_element(self):
        self.assertEqual(root_shape("<div id=\"a\">x <b>y</b> z</div>"), ("html", "", [("a", "x y z", [])]))
        self.assertEqual(root_shape("hello"), ("html", "hello", []))
        self.assertEqual(root_shape(""), ("html", "", []))

    def test_runs_between_boxes(self):
        wanted = ("html", "", [("a", "", [(None, "x ", []), ("p", "y", []), (None, " z", [])])])
        self.assertEqual(root_shape('<div id="a">x <p>y</p> z</div>'), wanted)

    def test_runs_of_spaces_have_no_box(self):
        wanted = ("html", "", [("a", "", [("p", "y", []), ("p", "z", [])])])
        self.assertEqual(root_shape('<div id="a"><b> </b><p>y</p><b>  </b><p>z</p> </div>'), wanted)
        self.assertEqual(root_shape('<div id="a"><b> </b></div>'), ("html", "", [("a", "", [])]))

    def test_a_br_is_more_than_spaces(self):
        wanted = ("html", "", [("a", "", [(None, "|", []), ("p", "y", [])])])
        self.assertEqual(root_shape('<div id="a"><br><p>y</p></div>'), wanted)
        _, root = laid("<br>")
        self.assertEqual([(piece.kind, piece.text, piece.width, piece.node.tag) for piece in root.pieces], [("end", "", 0, "br")])
        self.assertEqual(root_shape('<div id="a"><br></div>'), ("html", "", [("a", "|", [])]))

    def test_boxes_within_inline_elements_belong_to_the_block_around(self):
        wanted = ("html", "", [("a", "", [(None, "xu", []), ("c", "y", []), (None, "vz", [])])])
        self.assertEqual(root_shape('<div id="a">x<b id="b">u<section id="c">y</section>v</b>z</div>'), wanted)

    def test_blanks_and_line_ends_are_spaces(self):
        _, root = laid("<div>a\n b</div>")
        self.assertEqual([piece.kind for piece in root.children[0].pieces], ["word", "space", "space", "word"])
        self.assertEqual([(piece.text, piece.width) for piece in root.children[0].pieces], [("a", 1), (" ", 1), (" ", 1), ("b", 1)])

    def test_kept_blanks(self):
        _, root = laid("<pre>a  b\n c</pre>")
        self.assertEqual([piece.shown() for piece in root.children[0].pieces],
                         [("word", "a  b", 1), ("end", "", 1), ("word", " c", 1)])
        self.assertEqual(root_shape("<b>  </b>", "b { white-space: pre }"), ("html", "  ", []))

    def test_texts_are_transformed(self):
        self.assertEqual(root_shape("<h1>a B</h1>"), ("html", "", [("h1", "A B", [])]))
        self.assertEqual(root_shape('<div>a <b>B</b></div>', "b { text-transform: lower }"), ("html", "", [("div", "a b", [])]))
        self.assertEqual(root_shape("<pre>a\n</pre>", "pre { text-transform: upper }"), ("html", "", [("pre", "A|", [])]))

    def test_an_img_is_a_thing_and_what_inputs_show_are_words(self):
        markup = '<img><input value="v w"><input type="checkbox"><input type="checkbox" checked><input type="hidden" value="h"><input>'
        _, root = laid(markup)
        self.assertEqual([(piece.kind, piece.text, piece.width) for piece in root.pieces],
                         [("thing", "###", 3), ("word", "[v w]", 5), ("word", "[ ]", 3), ("word", "[x]", 3), ("word", "[]", 2)])
        self.assertEqual([piece.node.number for piece in root.pieces], [1, 2, 3, 4, 6])

    def test_texts_of_inputs_are_not_transformed(self):
        self.assertEqual(root_shape('<input value="aB">', "input { text-transform: upper }"), ("html", "[aB]", []))

    def test_the_width_of_an_img(self):
        for told, shown in (("5", "#####"), ("0", ""), ("50pc", ""), ("100pc", ""), ("auto", "###")):
            _, root = laid("<img>", "img { width: " + told + " }")
            self.assertEqual([(piece.text, piece.width) for piece in root.pieces], [(shown, len(shown))], told)

    def test_a_hidden_input_alone_is_nothing(self):
        self.assertEqual(root_shape('<div><input type="hidden"></div><p>a</p>'),
                         ("html", "", [("div", "", []), ("p", "a", [])]))

    def test_what_has_a_box_of_its_own_shows_nothing(self):
        styles = "img, br, input { display: block }"
        wanted = ("html", "", [("img", "", []), ("br", "", []), ("input", "", []), (None, "x", [])])
        self.assertEqual(root_shape('<img><br><input value="v">x', styles), wanted)

    def test_what_is_not_displayed(self):
        markup = '<title>t</title><style>p { }</style><p>a</p><div id="d">b<p>c</p></div>x<b id="e">y</b>z'
        self.assertEqual(root_shape(markup, "#d, #e { display: none }"),
                         ("html", "", [("p", "a", []), (None, "xz", [])]))

    def test_what_is_not_displayed_parts_no_run(self):
        self.assertEqual(root_shape('x<p id="d">y</p>z', "#d { display: none }"), ("html", "xz", []))

    def test_scripts_that_are_displayed(self):
        self.assertEqual(root_shape("<script>a < b</script>", "script { display: block }"),
                         ("html", "", [("script", "a < b", [])]))

    def test_absolute_boxes_stand_behind_the_flow(self):
        wanted = ("html", "", [("a", "x z", [("b", "y", [])])])
        self.assertEqual(root_shape('<div id="a">x <b id="b">y</b>z</div>', "b { position: absolute }"), wanted)
        wanted = ("html", "", [("p", "p", []), ("b", "y", []), ("i", "w", [])])
        styles = "b, i { position: absolute }"
        self.assertEqual(root_shape('<u><b id="b">y</b></u><p>p</p><i id="i">w</i>', styles), wanted)

    def test_in_a_flex_element_every_element_has_a_box(self):
        wanted = ("html", "", [("a", "", [(None, "x ", []), ("b", "y", []), ("img", "", []), ("br", "", []),
                                          ("input", "", []), ("p", "z", [])])])
        markup = '<div id="a">x <b>y</b> <img><br><input value="v"><p>z</p></div>'
        self.assertEqual(root_shape(markup, "#a { display: flex }"), wanted)

    def test_a_lonely_text_of_a_flex_element_has_a_box(self):
        self.assertEqual(root_shape('<div id="a">x</div>', "#a { display: flex }"), ("html", "", [("a", "", [(None, "x", [])])]))

    def test_within_an_element_of_a_flex_element_lines_are_lines_again(self):
        wanted = ("html", "", [("a", "", [("b", "x###", [])])])
        self.assertEqual(root_shape('<div id="a"><b id="b">x<img></b></div>', "#a { display: flex }"), wanted)

    def test_boxes_without_an_element_take_what_is_handed_down_alone(self):
        _, root = laid('<div>x<p>y</p></div>', "div { color: red; background: blue; margin: 1; text-align: right; z-index: 4 }")
        box = root.children[0].children[0]
        self.assertIsNone(box.node)
        self.assertEqual((box.left, box.top, box.width, box.height), (1, 1, 38, 1))
        self.assertEqual(box.lines[0].runs[0][0], 37)


class Root(unittest.TestCase):
    def test_the_root_is_as_wide_as_the_window(self):
        self.assertEqual(places("", "", 33), {})
        _, root = laid("<p>a</p>", "", 33)
        self.assertEqual((root.left, root.top, root.width, root.height), (0, 0, 33, 3))
        self.assertEqual(root.node.number, 0)

    def test_the_margins_of_the_root(self):
        _, root = laid("a", "html { margin: 2 3 4 5; padding: 1; border: 1 }")
        self.assertEqual((root.left, root.top, root.width, root.height), (5, 0, 32, 5))
        self.assertEqual((root.inset_left, root.inset_top), (2, 2))

    def test_auto_margins_of_the_root(self):
        _, root = laid("a", "html { width: 11; margin-left: auto; margin-right: auto }", 20)
        self.assertEqual((root.left, root.width), (4, 11))

    def test_the_root_is_a_block_whatever_its_display(self):
        for word in ("inline", "none", "block"):
            _, root = laid("<p>a</p>", "html { display: " + word + " }", 20)
            self.assertEqual((root.width, root.height, len(root.children)), (20, 3, 1), word)

    def test_a_root_that_is_flex(self):
        found = places('<p id="a">ab</p><p id="b">c</p>', "html { display: flex }", 20)
        self.assertEqual(found, {"a": (0, 1, 2, 1), "b": (2, 1, 1, 1)})

    def test_a_root_that_is_absolute_or_relative(self):
        _, root = laid("a", "html { position: absolute; left: 3; top: 2 }", 20)
        self.assertEqual((root.left, root.top, root.width), (0, 0, 20))
        _, root = laid("<p>a</p>", "html { position: relative; left: 50pc; top: -2; width: 9 }", 20)
        self.assertEqual((root.left, root.top, root.width), (4, -2, 9))
        self.assertEqual((root.children[0].left, root.children[0].top), (4, -1))


class Blocks(unittest.TestCase):
    def test_margins_that_meet(self):
        markup = '<div id="o"><p id="a">x</p><div id="b">y</div><p id="c">z</p><p id="d">w</p></div>'
        found = places(markup, "#a { margin: 1 0 3 } #d { margin: 2 0 4 }")
        self.assertEqual(found["a"], (0, 1, 40, 1))
        self.assertEqual(found["b"], (0, 5, 40, 1))
        self.assertEqual(found["c"], (0, 7, 40, 1))
        self.assertEqual(found["d"], (0, 10, 40, 1))
        # The first margin above and the last one below stay inside.
        self.assertEqual(found["o"], (0, 0, 40, 15))

    def test_runs_of_text_have_no_margins(self):
        found = places('<div id="o">x<p id="a">y</p>z</div>')
        self.assertEqual(found, {"o": (0, 0, 40, 5), "a": (0, 2, 40, 1)})

    def test_an_empty_block_parts_margins(self):
        found = places('<p id="a">x</p><div id="e"></div><p id="b">y</p>', "#e { margin: 2 0 }")
        self.assertEqual((found["e"], found["b"]), ((0, 4, 40, 0), (0, 6, 40, 1)))

    def test_widths(self):
        styles = "div { width: 10 } #b { width: 50pc } #c { width: auto; margin: 0 3 0 2; padding: 0 1; border: 1 }"
        found = places('<div id="a"></div><div id="b"></div><div id="c"></div>', styles, 25)
        self.assertEqual(found, {"a": (0, 0, 10, 0), "b": (0, 0, 12, 0), "c": (2, 0, 20, 2)})

    def test_the_width_is_that_of_the_content(self):
        found = places('<div id="a"></div>', "div { width: 10; padding: 1 2 3 4; border: 2; height: 5 }")
        self.assertEqual(found["a"], (0, 0, 20, 13))

    def test_shares_are_of_the_content_around(self):
        styles = "#o { width: 20; padding: 5 } #a { width: 33pc; margin-left: 15pc; padding: 10pc 25pc 5pc; margin-top: 11pc }"
        found = places('<div id="o"><div id="a"></div></div>', styles)
        self.assertEqual(found["o"], (0, 0, 30, 15))
        self.assertEqual(found["a"], (5 + 3, 5 + 2, 6 + 10, 3))

    def test_least_and_greatest_widths(self):
        markup = '<div id="a"></div><div id="b"></div><div id="c"></div><div id="d"></div>'
        styles = ("#a { max-width: 50pc } #b { width: 5; min-width: 8 } #c { width: 20; max-width: 6; min-width: 9 }"
                  "#d { width: 20; max-width: 0 }")
        found = places(markup, styles, 30)
        self.assertEqual([found[name][2] for name in "abcd"], [15, 8, 9, 0])

    def test_a_content_has_no_width_below_0(self):
        found = places('<div id="a"></div>', "#a { padding: 0 4; border: 1 }", 6)
        self.assertEqual(found["a"], (0, 0, 10, 2))

    def test_auto_margins(self):
        styles = "div { width: 7 } .l { margin-left: auto } .r { margin-right: auto }"
        markup = '<div id="a" class="l r"></div><div id="b" class="l"></div><div id="c" class="r"></div>'
        found = places(markup, styles, 20)
        self.assertEqual([found[name][0] for name in "abc"], [6, 13, 0])

    def test_auto_margins_beside_other_ones(self):
        styles = "div { width: 7; padding: 0 1; border: 1; margin-left: auto; margin-right: 2 }"
        self.assertEqual(places('<div id="a"></div>', styles, 20)["a"][0], 7)

    def test_auto_margins_without_room(self):
        for text in ("auto", "0"):
            styles = "div { width: 30; margin-left: auto; margin-right: " + text + " }"
            self.assertEqual(places('<div id="a"></div>', styles, 20)["a"], (0, 0, 30, 0))

    def test_auto_margins_share_what_a_greatest_width_leaves(self):
        styles = "div { max-width: 9; margin-left: auto; margin-right: auto }"
        self.assertEqual(places('<div id="a"></div>', styles, 20)["a"], (5, 0, 9, 0))

    def test_heights(self):
        markup = '<div id="a">x y</div><div id="b">x</div><div id="c">x</div>'
        found = places(markup, "#a { width: 1 } #b { height: 4 } #c { height: 0 }")
        self.assertEqual([found[name][1:4:2] for name in "abc"], [(0, 2), (2, 4), (6, 0)])

    def test_an_hr(self):
        self.assertEqual(places('<hr id="a">x', "", 9)["a"], (0, 0, 9, 1))

    def test_lines_are_broken_by_the_content(self):
        document, root = laid('<div>abc def</div>', "div { width: 5; padding: 2 }")
        box = root.children[0]
        self.assertEqual([line.width for line in box.lines], [3, 3])
        self.assertEqual((box.width, box.height), (9, 6))


class Flex(unittest.TestCase):
    def row(self, styles, width=20, many=3, texts="abc"):
        """Return the places of a row of children in a flex element."""
        markup = '<div id="o">' + "".join(f'<div id="{sign}">{sign}{sign}</div>' for sign in texts[:many]) + "</div>"
        return places(markup, "#o { display: flex } " + styles, width)

    def test_children_are_as_wide_as_their_content_wants(self):
        found = self.row("#b { width: 5 } #c { padding: 0 1; margin: 1 2 3; border: 1 }")
        self.assertEqual(found["a"], (0, 0, 2, 1))
        self.assertEqual(found["b"], (2, 0, 5, 1))
        self.assertEqual(found["c"], (9, 1, 6, 3))
        self.assertEqual(found["o"], (0, 0, 20, 7))

    def test_what_a_content_wants(self):
        markup = ('<div id="o"><div id="a">xx yy<br>z</div><div id="b"><p id="p">long text</p><p>x</p></div>'
                  '<div id="c"><b id="q">uu</b><i id="r">vvv</i></div><img id="i"></div>')
        styles = "#o, #c { display: flex } p { margin: 0 1; padding: 0 2 } #q { margin: 0 1 }"
        found = places(markup, styles, 60)
        self.assertEqual([found[name][2] for name in "abci"], [5, 15, 7, 0])
        self.assertEqual(found["p"], (6, 0, 13, 1))
        self.assertEqual((found["q"], found["r"]), ((21, 0, 2, 1), (24, 0, 3, 1)))

    def test_absolute_children_are_not_wanted(self):
        markup = '<div id="o"><div id="a">x<b id="b">very long</b></div></div>'
        found = places(markup, "#o { display: flex } #b { position: absolute }")
        self.assertEqual(found["a"][2], 1)

    def test_shares_within_a_content_are_of_the_flex_element(self):
        markup = '<div id="o"><div id="a"><div id="b"><div id="c"></div></div></div></div>'
        found = places(markup, "#o { display: flex; width: 20 } #c { width: 50pc; margin-left: 10pc }")
        # The content wants 10 + 2; laid out, the share is of what is around.
        self.assertEqual(found["a"][2], 12)
        self.assertEqual(found["c"], (1, 0, 6, 0))

    def test_limits_of_what_is_wanted(self):
        found = self.row("#a { min-width: 6 } #b { width: 9; max-width: 20pc } #c { max-width: 1 }")
        self.assertEqual([found[name][2] for name in "abc"], [6, 4, 1])
        self.assertEqual(found["c"][3], 2)

    def test_rows_break(self):
        found = self.row("div { width: 8 } #o { width: 20 } #a { height: 2; margin: 0 0 1 }")
        self.assertEqual(found["a"], (0, 0, 8, 2))
        self.assertEqual(found["b"], (8, 0, 8, 1))
        self.assertEqual(found["c"], (0, 3, 8, 1))
        self.assertEqual(found["o"], (0, 0, 20, 4))

    def test_a_row_that_just_fits(self):
        self.assertEqual(self.row("#b, #c { width: 9 }")["c"], (11, 0, 9, 1))
        self.assertEqual(self.row("#b { width: 9 } #c { width: 10 }")["c"], (0, 1, 10, 1))

    def test_rows_break_by_widths_with_margins(self):
        self.assertEqual(self.row("#a, #b { width: 8; padding: 0 1 } #c { display: none }")["b"], (10, 0, 10, 1))
        self.assertEqual(self.row("#a, #b { width: 8; padding: 0 1 } #b { margin-right: 1 } #c { display: none }")["b"], (0, 1, 10, 1))

    def test_what_is_left_is_reckoned_with_margins(self):
        styles = "#a { margin: 0 3 } #b { padding: 0 2; border: 0 } #c { display: none } "
        # 20 less 2, 6, 2 and 4.
        self.assertEqual(self.row(styles + "#o { justify: end }")["b"][0], 14)
        self.assertEqual(self.row(styles + "#o { justify: between }")["b"][0], 14)
        self.assertEqual(self.row(styles + "#a { grow: 1 }")["b"][0], 14)

    def test_a_row_without_height(self):
        markup = '<div id="o"><div id="a"></div><div id="b"></div></div>'
        self.assertEqual(places(markup, "#o { display: flex }", 9)["o"], (0, 0, 9, 0))

    def test_a_flex_element_without_children(self):
        self.assertEqual(places('<div id="o"></div>', "#o { display: flex; padding: 1 }", 9)["o"], (0, 0, 9, 2))

    def test_a_child_that_is_too_wide_stands_alone(self):
        found = self.row("#b { width: 30 }")
        self.assertEqual((found["a"], found["b"], found["c"]), ((0, 0, 2, 1), (0, 1, 30, 1), (0, 2, 2, 1)))
        self.assertEqual(self.row("#a { width: 30 } #o { justify: end }")["a"][0], 0)

    def test_margins_in_rows_do_not_meet(self):
        found = self.row("#a, #b, #c { width: 20; margin: 1 0 }")
        self.assertEqual([found[name][1] for name in "abc"], [1, 4, 7])

    def test_grow(self):
        found = self.row("#a { grow: 1 } #b { grow: 2 }")
        # 14 are left: 4 for the first, 14 for the first two.
        self.assertEqual([found[name][:3:2] for name in "abc"], [(0, 6), (6, 12), (18, 2)])

    def test_grow_with_rests_that_do_not_divide(self):
        found = self.row("#a, #b, #c { grow: 1 }", 19)
        # 13 are left: 13 // 3, 26 // 3, 39 // 3.
        self.assertEqual([found[name][2] for name in "abc"], [2 + 4, 2 + 4, 2 + 5])

    def test_grow_goes_over_the_greatest_width(self):
        self.assertEqual(self.row("#a { grow: 1; max-width: 2 }")["a"][2], 16)

    def test_grow_in_each_row_of_its_own(self):
        found = self.row("#a, #b { width: 9 } #c { width: 5; grow: 3 } #a { grow: 1 }")
        self.assertEqual([found[name] for name in "abc"], [(0, 0, 11, 1), (11, 0, 9, 1), (0, 1, 20, 1)])

    def test_grow_and_justify(self):
        found = self.row("#o { justify: end } #a, #b { width: 9 } #c { grow: 1 }", 19)
        self.assertEqual([found[name][:3:2] for name in "abc"], [(1, 9), (10, 9), (0, 19)])

    def test_justify(self):
        self.assertEqual([self.row("#o { justify: start }")[name][0] for name in "abc"], [0, 2, 4])
        self.assertEqual([self.row("#o { justify: end }")[name][0] for name in "abc"], [14, 16, 18])
        self.assertEqual([self.row("#o { justify: center }")[name][0] for name in "abc"], [7, 9, 11])
        self.assertEqual([self.row("#o { justify: center }", 21)[name][0] for name in "abc"], [7, 9, 11])
        self.assertEqual([self.row("#o { justify: between }")[name][0] for name in "abc"], [0, 9, 18])
        self.assertEqual([self.row("#o { justify: between }", 21)[name][0] for name in "abc"], [0, 9, 18])

    def test_between_with_one_child(self):
        self.assertEqual(self.row("#o { justify: between }", 20, 1)["a"], (0, 0, 2, 1))

    def test_order(self):
        found = self.row("#a { order: 1 } #b { order: 1 } #c { order: -1 }")
        self.assertEqual([found[name][0] for name in "abc"], [2, 4, 0])

    def test_auto_margins_are_0_in_rows(self):
        self.assertEqual(self.row("#a { margin-left: auto; margin-right: auto }")["a"], (0, 0, 2, 1))

    def test_texts_in_a_flex_element(self):
        found = places('<div id="o">hello there <b id="b">x</b></div>', "#o { display: flex }", 20)
        self.assertEqual(found["b"], (11, 0, 1, 1))

    def test_an_img_a_br_and_an_input(self):
        markup = '<div id="o"><img id="i"><br id="r"><input id="n" value="v"></div>'
        found = places(markup, "#o { display: flex } #i { width: 4; height: 2 } input { padding: 1 }")
        self.assertEqual(found, {"o": (0, 0, 40, 2), "i": (0, 0, 4, 2), "r": (4, 0, 0, 0), "n": (4, 0, 2, 2)})

    def test_a_flex_element_within_another_one(self):
        markup = '<div id="o"><div id="a"><p id="p">xx</p><p id="q">yyy</p></div><div id="b">z</div></div>'
        found = places(markup, "#o, #a { display: flex } #a { justify: between; grow: 1 } p { margin: 0 }", 20)
        self.assertEqual((found["a"], found["p"], found["q"]), ((0, 0, 19, 1), (0, 0, 2, 1), (16, 0, 3, 1)))


class Placed(unittest.TestCase):
    def test_an_absolute_box_is_outside_the_flow(self):
        markup = '<div id="o">x<div id="a">abc de</div>y</div><p id="p">z</p>'
        found = places(markup, "#o { margin: 2; padding: 1; border: 1 } #a { position: absolute; left: 3; top: 1; margin: 1 2 }")
        self.assertEqual(found["o"], (2, 2, 36, 5))
        self.assertEqual(found["a"], (2 + 3 + 2, 2 + 1 + 1, 6, 1))
        self.assertEqual(found["p"][1], 9)

    def test_left_and_top_are_0_by_themselves(self):
        found = places('<p>x</p><div id="o"><b id="a">y</b></div>', "#o { border: 1 } #a { position: absolute }")
        self.assertEqual((found["o"], found["a"]), ((0, 3, 40, 2), (0, 3, 1, 1)))

    def test_the_width_of_an_absolute_box(self):
        markup = '<div id="o"><div id="a">aaa bbb ccc</div></div>'
        for told, wanted in (("", (0, 0, 8, 2)), ("width: 12", (0, 0, 8, 2)), ("width: 50pc", (0, 0, 4, 3)),
                             ("width: 8", (0, 0, 8, 2)), ("width: 7", (0, 0, 7, 2)), ("width: 200pc", (0, 0, 8, 2)),
                             ("padding: 0 1; margin: 0 1", (1, 0, 6, 3)), ("max-width: 3", (0, 0, 3, 3)),
                             ("width: 12; padding: 0 1; margin: 0 1", (1, 0, 6, 3)), ("width: 12; border: 1", (0, 0, 8, 5)),
                             ("width: 5; max-width: 3", (0, 0, 3, 3)), ("width: 12; min-width: 10", (0, 0, 10, 2)),
                             ("width: 12; margin: 0 5", (5, 0, 0, 9)), ("width: 0", (0, 0, 0, 9)),
                             ("min-width: 11", (0, 0, 11, 1)), ("left: 6", (6, 0, 8, 2)), ("width: 12; left: 6", (6, 0, 8, 2)),
                             ("margin-left: auto", (0, 0, 8, 2)), ("left: 25pc; top: -3", (2, -3, 8, 2))):
            found = places(markup, "#o { width: 8 } #a { position: absolute; " + told + " }")
            self.assertEqual(found["a"], wanted, told)

    def test_inputs_count_for_what_a_content_wants(self):
        markup = '<div id="o"><div id="a">ab<input value="cd"> e<input type="checkbox"><br><input></div></div>'
        for told, wanted in (("", (0, 0, 11, 2)), ("max-width: 4", (0, 0, 4, 4)), ("width: 12", (0, 0, 12, 2))):
            self.assertEqual(places(markup, "#a { position: absolute; " + told + " }", 20)["a"], wanted, told)
        self.assertEqual(places(markup, "#o { display: flex }", 20)["a"], (0, 0, 11, 2))
        self.assertEqual(places(markup, "#o { width: 5 } #a { position: absolute }", 20)["a"], (0, 0, 5, 4))

    def test_shares_of_an_absolute_box_are_of_the_box_around(self):
        styles = "#o { width: 10; padding: 0 5; border: 1 } #a { position: absolute; width: 50pc; left: 10pc; padding: 0 25pc }"
        found = places('<div id="o"><div id="a"></div></div>', styles)
        self.assertEqual(found["a"], (2, 0, 11 + 5 + 5, 0))

    def test_shares_within_an_absolute_box_that_asks_what_it_wants(self):
        styles = "#o { width: 20; padding: 0 2 } #a { position: absolute } #b { width: 25pc }"
        found = places('<div id="o"><div id="a"><div id="b"></div></div></div>', styles)
        # The content wants 25 of 100 of the 24 around; laid out, the share is of those 6.
        self.assertEqual((found["a"], found["b"]), ((0, 0, 6, 0), (0, 0, 1, 0)))

    def test_an_absolute_box_within_an_absolute_one(self):
        markup = '<div id="o">x<div id="a">abcdef<b id="b">gh ij</b></div></div>'
        styles = "#a, #b { position: absolute; left: 2; top: 3 } #b { width: 50pc }"
        found = places(markup, styles)
        self.assertEqual((found["a"], found["b"]), ((2, 3, 6, 1), (4, 6, 3, 2)))

    def test_an_absolute_box_within_a_relative_one(self):
        markup = '<p>x</p><div id="o">y<b id="b">z</b></div>'
        styles = "#o { position: relative; left: 5; top: -1 } #b { position: absolute; left: 1; top: 1 }"
        found = places(markup, styles)
        self.assertEqual((found["o"], found["b"]), ((5, 2, 40, 1), (6, 3, 1, 1)))

    def test_an_absolute_box_within_an_inline_element_belongs_to_the_block(self):
        markup = '<div id="o">text <u><b id="b">z</b></u></div>'
        self.assertEqual(places(markup, "#o { margin-left: 4 } #b { position: absolute; left: 1 }")["b"], (5, 0, 1, 1))

    def test_an_absolute_child_of_a_flex_element(self):
        markup = '<div id="o"><b id="b">z</b><i id="i">uu</i></div>'
        found = places(markup, "#o { display: flex; justify: end; padding: 1 } #b { position: absolute; left: 3 }", 10)
        self.assertEqual((found["b"], found["i"]), ((3, 0, 1, 1), (7, 1, 2, 1)))

    def test_a_relative_box_moves_with_all_in_it(self):
        markup = '<div id="a"><div id="b"><p id="p">x</p></div></div><div id="c">y</div>'
        styles = "#a { position: relative; left: 2; top: 1 } #b { width: 10; position: relative; left: -30pc; top: 1 }"
        found = places(markup, styles)
        self.assertEqual(found["a"], (2, 1, 40, 3))
        self.assertEqual(found["b"], (2 - 3, 2, 10, 3))
        self.assertEqual(found["p"], (-1, 3, 10, 1))
        self.assertEqual(found["c"], (0, 3, 40, 1))

    def test_a_relative_share_is_of_the_own_width_with_paddings(self):
        styles = "#a { width: 10; padding: 0 5; position: relative; left: 50pc }"
        self.assertEqual(places('<div id="a"></div>', styles)["a"], (10, 0, 20, 0))

    def test_left_and_top_of_static_boxes_count_for_nothing(self):
        self.assertEqual(places('<div id="a">x</div>', "#a { left: 4; top: 4 }")["a"], (0, 0, 40, 1))

    def test_an_inline_element_that_is_relative_has_no_box(self):
        self.assertEqual(places('a<b id="b">c</b>', "b { position: relative; left: 4 }"), {})


if __name__ == "__main__":
    unittest.main()
