"""Painting [10]: canvases, and whole pages as cells."""

import unittest

from pagestack.errors import SizeError
from pagestack.page import Page
from pagestack.paint import Canvas, element_at, meeting

ALL = (0, 0, 100, 100)


class Canvases(unittest.TestCase):
    def test_sizes(self):
        canvas = Canvas(200, 100)
        self.assertEqual((canvas.width, canvas.height), (200, 100))
        self.assertEqual(Canvas(1, 20000).height, 20000)
        self.assertEqual(Canvas(20001, 0).width, 20001)
        for width, height in ((201, 100), (20001, 1), (1, 20001), (0, 5), (0, 0), (-1, 5), (5, -1)):
            with self.assertRaises(SizeError):
                Canvas(width, height)

    def test_a_canvas_without_rows(self):
        canvas = Canvas(4, 0)
        self.assertEqual((canvas.letter_rows(), canvas.shown()), ((), ()))
        canvas.fill(ALL, "red", 1, ALL)
        canvas.write(0, 0, "abc", ("red", "none", 1), ALL)
        self.assertEqual(canvas.shown(), ())
        with self.assertRaises(SizeError):
            canvas.cell(0, 0)

    def test_an_empty_cell(self):
        self.assertEqual(Canvas(2, 2).cell(1, 1), (" ", "black", "white", None))
        self.assertEqual(Canvas(2, 1).shown(), (((" ", "black", "white"), (" ", "black", "white")),))
        self.assertEqual(Canvas(2, 2).letter_rows(), ("  ", "  "))
        self.assertIsNone(element_at(Canvas(2, 2), 0, 0))

    def test_cells_outside(self):
        canvas = Canvas(3, 2)
        for column, row in ((3, 0), (0, 2), (-1, 0), (0, -1), (9, 9)):
            with self.assertRaises(SizeError):
                canvas.cell(column, row)
            with self.assertRaises(SizeError):
                element_at(canvas, column, row)

    def test_fill(self):
        canvas = Canvas(4, 3)
        canvas.fill((1, 1, 2, 1), "red", 7, ALL)
        self.assertEqual(canvas.cell(1, 1), (" ", "black", "red", 7))
        self.assertEqual(canvas.cell(2, 1), (" ", "black", "red", 7))
        for place in ((0, 1), (3, 1), (1, 0), (1, 2)):
            self.assertEqual(canvas.cell(*place), (" ", "black", "white", None))

    def test_fill_covers_letters(self):
        canvas = Canvas(3, 1)
        canvas.write(0, 0, "abc", ("red", "blue", 1), ALL)
        canvas.fill((1, 0, 1, 1), "green", 2, ALL)
        self.assertEqual(canvas.letter_rows(), ("a c",))
        self.assertEqual(canvas.cell(1, 0), (" ", "black", "green", 2))

    def test_fill_without_a_colour_changes_the_element_alone(self):
        canvas = Canvas(3, 1)
        canvas.write(0, 0, "ab", ("red", "blue", 1), ALL)
        canvas.fill((1, 0, 2, 1), "none", 2, ALL)
        self.assertEqual([canvas.cell(column, 0) for column in range(3)],
                         [("a", "red", "blue", 1), ("b", "red", "blue", 2), (" ", "black", "white", 2)])

    def test_what_is_outside_is_left_out(self):
        canvas = Canvas(3, 3)
        canvas.fill((-2, -2, 4, 3), "red", 1, ALL)
        canvas.fill((2, 2, 9, 9), "blue", 2, ALL)
        canvas.fill((5, 5, 2, 2), "green", 3, ALL)
        canvas.fill((0, 2, 1, 0), "green", 3, ALL)
        canvas.fill((0, 2, -1, 1), "green", 3, ALL)
        self.assertEqual([[cell[2] for cell in row] for row in canvas.shown()],
                         [["red", "red", "white"], ["white"] * 3, ["white", "white", "blue"]])

    def test_clips(self):
        canvas = Canvas(5, 5)
        canvas.fill((0, 0, 5, 5), "red", 1, (1, 2, 2, 1))
        self.assertEqual([(column, row) for row in range(5) for column in range(5) if canvas.cell(column, row)[3] == 1],
                         [(1, 2), (2, 2)])
        canvas.write(0, 2, "abcde", ("blue", "none", 2), (3, 0, 1, 9))
        self.assertEqual(canvas.letter_rows()[2], "   d ")
        canvas.write(0, 0, "abcde", ("blue", "none", 2), (0, 1, 5, 5))
        canvas.write(0, 0, "abcde", ("blue", "none", 2), (0, 0, 0, 5))
        self.assertEqual(canvas.letter_rows()[0], "     ")

    def test_write(self):
        canvas = Canvas(4, 2)
        canvas.fill((0, 0, 4, 1), "yellow", 1, ALL)
        canvas.write(1, 0, "ab", ("red", "none", 2), ALL)
        canvas.write(3, 0, "c", ("blue", "green", 3), ALL)
        self.assertEqual([canvas.cell(column, 0) for column in range(4)],
                         [(" ", "black", "yellow", 1), ("a", "red", "yellow", 2), ("b", "red", "yellow", 2),
                          ("c", "blue", "green", 3)])

    def test_blanks_are_written_too(self):
        canvas = Canvas(3, 1)
        canvas.write(0, 0, "xxx", ("black", "none", 1), ALL)
        canvas.write(1, 0, " ", ("red", "none", 2), ALL)
        self.assertEqual(canvas.cell(1, 0), (" ", "red", "white", 2))

    def test_texts_over_the_edges(self):
        canvas = Canvas(3, 2)
        canvas.write(-1, 0, "abcdef", ("red", "none", 1), ALL)
        canvas.write(2, 1, "xy", ("red", "none", 1), ALL)
        canvas.write(0, 2, "xy", ("red", "none", 1), ALL)
        canvas.write(0, -1, "xy", ("red", "none", 1), ALL)
        canvas.write(0, 1, "", ("red", "none", 1), ALL)
        self.assertEqual(canvas.letter_rows(), ("bcd", "  x"))

    def test_meeting(self):
        self.assertEqual(meeting((0, 0, 5, 5), (2, 3, 9, 1)), (2, 3, 3, 1))
        self.assertEqual(meeting((2, 3, 9, 1), (0, 0, 5, 5)), (2, 3, 3, 1))
        self.assertEqual(meeting((-3, -3, 5, 5), (0, 0, 9, 9)), (0, 0, 2, 2))
        self.assertEqual(meeting((0, 0, 2, 2), (0, 0, 2, 2)), (0, 0, 2, 2))
        self.assertEqual(meeting((0, 0, 2, 2), (2, 0, 2, 2))[2:], (0, 2))
        self.assertEqual(meeting((0, 0, 2, 2), (0, 7, 2, 2))[2:], (2, 0))
        self.assertEqual(meeting((0, 0, 2, 2), (7, 7, 2, 2))[2:], (0, 0))


def window(markup, styles="", width=12, height=6):
    """Return the painted window of a page with a text of styles, which is the root's first child."""
    return Page("<style>" + styles + " </style>" + markup, width, height).painted()


def letters(markup, styles="", width=12, height=6):
    """Return the letters of a painted window."""
    return list(window(markup, styles, width, height).letter_rows())


def colours(canvas, place):
    """Return the first letters of the colours (1) or backgrounds (2) of a canvas, a text for each row."""
    return ["".join(cell[place][0] for cell in row) for row in canvas.shown()]


class Painting(unittest.TestCase):
    def test_a_text(self):
        canvas = window("<p>ab cd</p>", "p { color: red }", 6, 3)
        self.assertEqual(canvas.letter_rows(), ("      ", "ab cd ", "      "))
        self.assertEqual(canvas.cell(0, 1), ("a", "red", "white", 3))
        self.assertEqual(canvas.cell(2, 1), (" ", "red", "white", 3))
        self.assertEqual(canvas.cell(5, 1), (" ", "black", "white", 3))
        # The root's box is behind the margins.
        self.assertEqual(canvas.cell(0, 0), (" ", "black", "white", 0))

    def test_cells_beyond_the_root_are_of_no_element(self):
        canvas = window("<p>ab</p>", "html { margin-left: 2; width: 5 }", 9, 5)
        self.assertEqual([element_at(canvas, column, 0) for column in range(9)], [None] * 2 + [0] * 5 + [None] * 2)
        self.assertIsNone(element_at(canvas, 3, 4))

    def test_what_is_below_the_window_is_left_out(self):
        self.assertEqual(letters("a<br>b<br>c<br>d", "", 3, 2), ["a  ", "b  "])

    def test_backgrounds_stay_behind_letters(self):
        canvas = window("<div>ab</div>", "div { background: blue; color: white; padding: 0 1 }", 5, 1)
        self.assertEqual((colours(canvas, 2), colours(canvas, 1)), (["bbbbb"], ["bwwbb"]))

    def test_the_background_of_an_inline_element(self):
        canvas = window("<div>a<b>b<i>c</i></b> d</div>", "div { background: blue } b { background: red }", 6, 1)
        # What is within the inline element has no background of its own: what is behind shows.
        self.assertEqual(colours(canvas, 2), ["brbbbb"])
        self.assertEqual([element_at(canvas, column, 0) for column in range(6)], [3, 5, 7, 3, 3, 3])

    def test_an_inline_element_in_two_lines(self):
        canvas = window("<b>ab cd</b>", "b { background: red }", 3, 3)
        self.assertEqual(colours(canvas, 2), ["rrw", "rrw", "www"])

    def test_the_background_of_a_block_is_painted_once_behind_its_letters(self):
        canvas = window('<div>ab<b id="x">c</b></div>', "div { background: red } #x { position: absolute; left: 1; background: blue }",
                        4, 1)
        self.assertEqual((canvas.letter_rows(), colours(canvas, 2)), (("ac  ",), ["rbrr"]))

    def test_things(self):
        canvas = window('<img><input value="x">', "img { color: red; background: yellow }", 8, 1)
        self.assertEqual(canvas.letter_rows(), ("###[x]  ",))
        self.assertEqual((colours(canvas, 1), colours(canvas, 2)), (["rrrbbbbb"], ["yyywwwww"]))

    def test_what_an_input_shows_is_broken_as_a_word_is(self):
        for markup, width, rows in (('abc<input value="de">', 5, ["abc[d", "e]   "]), ('abc <input value="de">', 6, ["abc   ", "[de]  "]),
                                    ('abc <input value="de">', 8, ["abc [de]"]), ('abc<input type="checkbox">', 5, ["abc[ ", "]    "]),
                                    ('abc <input type="checkbox" checked>', 4, ["abc ", "[x] "]),
                                    ('a <input value="b c d">e', 4, ["a   ", "[b c", " d]e"]), ("ab<input>c", 3, ["ab[", "]c "]),
                                    ('<input value="abcdef">', 3, ["[ab", "cde", "f] "]), ('<input value="a"> b', 1, list("[a]b"))):
            self.assertEqual(list(window(markup, "", width, len(rows)).letter_rows()), rows, markup)

    def test_the_cells_of_a_broken_input_are_its_own(self):
        canvas = window('abc<input value="de"><b>f</b>', "input { color: red; background: yellow }", 5, 2)
        self.assertEqual((colours(canvas, 1), colours(canvas, 2)), (["bbbrr", "rrbbb"], ["wwwyy", "yywww"]))
        self.assertEqual([canvas.cell(column, row)[3] for column, row in ((2, 0), (3, 0), (4, 0), (0, 1), (1, 1), (2, 1))], [0, 4, 4, 4, 4, 5])

    def test_an_img_is_never_broken(self):
        self.assertEqual(window("abc<img>d", "", 4, 2).letter_rows(), ("abc#", "d   "))

    def test_an_img_with_a_box_shows_nothing(self):
        canvas = window("<img>", "img { display: block; background: green; height: 1; width: 2 }", 4, 2)
        self.assertEqual((canvas.letter_rows()[0], colours(canvas, 2)), ("    ", ["ggww", "wwww"]))

    def test_a_border(self):
        canvas = window("<div>ab</div>", "div { border: 1; color: red; background: grey; width: 4 }", 8, 4)
        self.assertEqual(canvas.letter_rows(), ("+----+  ", "|ab  |  ", "+----+  ", "        "))
        self.assertEqual(colours(canvas, 1)[:2], ["rrrrrrbb", "rrrbbrbb"])
        self.assertEqual(colours(canvas, 2)[1], "ggggggww")
        self.assertEqual(element_at(canvas, 0, 0), 3)

    def test_a_wide_border_is_drawn_at_the_edge(self):
        self.assertEqual(letters("<div>a</div>", "div { border: 2; width: 1 }", 6, 5),
                         ["+---+ ", "|   | ", "| a | ", "|   | ", "+---+ "])

    def test_the_least_border(self):
        self.assertEqual(letters("<div></div>", "div { border: 1; width: 0 }", 3, 3), ["++ ", "++ ", "   "])

    def test_no_border(self):
        self.assertEqual(letters("<div></div>", "div { padding: 1; width: 1 }", 4, 3), ["    "] * 3)

    def test_overflow(self):
        styles = "div { width: 3; height: 1; padding: 0 1; background: red; white-space: pre } img { width: 9 }"
        markup = "<div><img><br>b</div>"
        self.assertEqual(letters(markup, styles, 12, 2), [" #########  ", " b          "])
        self.assertEqual(letters(markup, styles + "div { overflow: hidden }", 12, 2), [" ####       ", "            "])

    def test_overflow_cuts_placed_boxes_and_those_within(self):
        styles = ("#a { width: 4; height: 2; overflow: hidden; margin-left: 2 } #b { position: absolute; left: 3; top: 1 }"
                  "#c { position: relative; left: -2 }")
        markup = '<div id="a"><div id="c">abcdefg</div><div id="b">xyz<br>w</div></div>'
        self.assertEqual(letters(markup, styles, 9, 3), ["  cd     ", "  g  x   ", "         "])

    def test_overflow_within_overflow(self):
        styles = "div { overflow: hidden; height: 1 } #a { width: 5 } #b { width: 3; position: relative; left: 3 } img { width: 9 }"
        self.assertEqual(letters('<div id="a"><div id="b"><img></div></div>', styles, 9, 1), ["   ##    "])

    def test_what_is_not_visible(self):
        styles = "#a { visibility: hidden; background: red; border: 1 } #c { visibility: visible; color: blue }"
        canvas = window('<div id="a">ab<b id="b">c</b><i id="c">d</i></div>', styles, 7, 3)
        self.assertEqual(canvas.letter_rows(), ("       ", "    d  ", "       "))
        self.assertEqual(colours(canvas, 2), ["wwwwwww"] * 3)
        self.assertEqual([element_at(canvas, column, 1) for column in range(7)], [0, 0, 0, 0, 7, 0, 0])

    def test_an_inline_element_that_is_not_visible_keeps_its_place(self):
        canvas = window('<div>a<b>b<i>c</i></b>d</div>', "b { visibility: hidden; background: red } i { visibility: visible }", 5, 1)
        self.assertEqual((canvas.letter_rows(), colours(canvas, 2)), (("a cd ",), ["wwwww"]))
        self.assertEqual(element_at(canvas, 1, 0), 3)

    def test_a_run_of_text_between_boxes_has_the_element_around(self):
        canvas = window('<div id="a">x<p>y</p></div>', "p { margin: 0 } div { background: red }", 3, 2)
        self.assertEqual([element_at(canvas, column, 0) for column in range(3)], [3, 3, 3])
        self.assertEqual([element_at(canvas, column, 1) for column in range(3)], [5, 5, 5])

    def test_later_boxes_cover_earlier_ones(self):
        styles = "div { height: 1; background: red } #b { position: relative; top: -1; background: blue; width: 2 }"
        canvas = window('<div id="a">abcd</div><div id="b">x</div>', styles, 5, 2)
        self.assertEqual((canvas.letter_rows()[0], colours(canvas, 2)[0]), ("x cd ", "bbrrr"))

    def test_a_box_without_a_background_lets_letters_show(self):
        styles = "#b { position: relative; top: -1; width: 2 }"
        canvas = window('<div id="a">abcd</div><div id="b">x</div>', styles, 5, 2)
        self.assertEqual(canvas.letter_rows()[0], "xbcd ")
        self.assertEqual([element_at(canvas, column, 0) for column in range(5)], [5, 5, 3, 3, 3])

    def layers(self, styles):
        """Return the letter on top of the overlapping boxes a, b, c and the text t of a page."""
        markup = '<div id="o">t<b id="a">a</b><b id="b">b</b><b id="c">c</b></div>'
        return letters(markup, "b { position: absolute } " + styles, 1, 1)[0]

    def test_z_index(self):
        self.assertEqual(self.layers(""), "c")
        self.assertEqual(self.layers("#a { z-index: 1 }"), "a")
        self.assertEqual(self.layers("#a { z-index: 1 } #b { z-index: 2 }"), "b")
        self.assertEqual(self.layers("#b, #a { z-index: 2 } #c { z-index: 1 }"), "b")

    def test_z_index_below_0_is_under_the_lines(self):
        self.assertEqual(self.layers("b { z-index: -1 }"), "t")
        styles = "#o { background: red; height: 1 } b { z-index: -1; background: blue; width: 2 }"
        canvas = window('<div id="o"><b id="a">xy</b>t</div>', "b { position: absolute } " + styles, 3, 1)
        # The box is over the background of the element around, and under its letters.
        self.assertEqual((canvas.letter_rows(), colours(canvas, 2)), (("ty ",), ["bbr"]))

    def test_z_indexes_below_0_and_ties(self):
        styles = "p { margin: 0; height: 0 } #a, #b { z-index: -1 } #c { z-index: -2 }"
        markup = '<div>{}<b id="a">a</b><b id="b">b</b><b id="c">c</b></div>'
        self.assertEqual(letters(markup.format(""), "b { position: absolute } " + styles, 1, 1), ["b"])

    def test_static_boxes_are_over_those_below_0_and_under_the_others(self):
        markup = '<div id="o"><p>s</p><b id="a">a</b></div>'
        base = "p { margin: 0 } b { position: absolute } "
        self.assertEqual(letters(markup, base + "#a { z-index: -1 }", 1, 1), ["s"])
        self.assertEqual(letters(markup, base + "#a { z-index: 0 }", 1, 1), ["a"])

    def test_relative_boxes_have_a_z_index_too(self):
        markup = '<div id="a">a</div><div id="b">b</div>'
        self.assertEqual(letters(markup, "#b { position: relative; top: -1 }", 1, 1), ["b"])
        self.assertEqual(letters(markup, "#b { position: relative; top: -1; z-index: -1 }", 1, 1), ["a"])
        styles = "div { position: relative } #b { top: -1 } #a { z-index: 1 }"
        self.assertEqual(letters(markup, styles, 1, 1), ["a"])

    def test_in_ties_what_is_absolute_comes_behind_what_is_in_the_flow(self):
        markup = '<b id="b">b</b><div id="a">a</div>'
        styles = "#a { position: relative } #b { position: absolute }"
        self.assertEqual(letters(markup, styles, 1, 1), ["b"])

    def test_z_index_of_static_boxes_counts_for_nothing(self):
        markup = '<div id="a">a</div><div id="b">b</div>'
        self.assertEqual(letters(markup, "#a { z-index: 9; height: 0 }", 1, 1), ["b"])

    def test_z_index_stays_within_the_box_around(self):
        markup = '<div id="a"><b id="x">x</b></div><div id="b">b</div>'
        styles = "#a, #b { position: relative; height: 1 } #b { top: -1 } #x { position: absolute; z-index: 9 }"
        self.assertEqual(letters(markup, styles, 1, 1), ["b"])

    def test_sizes_that_cannot_be(self):
        for width, height in ((0, 5), (-1, 5), (5, -1), (201, 100)):
            page = Page("<p>a</p>", width, height)
            with self.assertRaises(SizeError):
                page.painted()
            self.assertEqual(page.layouts, 0)

    def test_a_window_without_rows(self):
        self.assertEqual(Page("<p>a</p>", 5, 0).painted().letter_rows(), ())

    def test_a_window_of_one_cell(self):
        self.assertEqual(letters("abc", "", 1, 1), ["a"])


if __name__ == "__main__":
    unittest.main()
