"""Pieces and boxes [7], as far as pagestack.boxes goes."""

import unittest

from pagestack.boxes import Box, Piece, kept_pieces, shown_value, transformed
from pagestack.markup import parse_markup
from pagestack.nodes import Document


class Pieces(unittest.TestCase):
    def test_a_piece(self):
        node = Document().make("b")
        piece = Piece("word", "abc", node, 3)
        self.assertEqual((piece.kind, piece.text, piece.width), ("word", "abc", 3))
        self.assertEqual(piece.shown(), ("word", "abc", 1))

    def test_kept_pieces(self):
        node = Document().make("pre")
        rows = [(piece.kind, piece.text, piece.width) for piece in kept_pieces(" a  b \ncd\n\n e", node)]
        wanted = [("word", " a  b ", 6), ("end", "", 0), ("word", "cd", 2), ("end", "", 0), ("end", "", 0), ("word", " e", 2)]
        self.assertEqual(rows, wanted)
        self.assertEqual([piece.shown() for piece in kept_pieces("x", node)], [("word", "x", 1)])
        self.assertEqual([piece.kind for piece in kept_pieces("a\n", node)], ["word", "end"])
        self.assertEqual(kept_pieces("", node), [])


class Boxes(unittest.TestCase):
    def test_a_new_box(self):
        node = Document().root
        box = Box(node, {"color": "red"})
        self.assertEqual(box.node, node)
        self.assertEqual((box.children, box.pieces), ([], []))
        self.assertEqual((box.left, box.top, box.width, box.height), (0, 0, 0, 0))
        self.assertIsNone(Box(None, {}).node)
        self.assertIsNot(Box(node, {}).children, box.children)


class Shown(unittest.TestCase):
    def test_transformed_texts(self):
        self.assertEqual(transformed("aB c1", "upper"), "AB C1")
        self.assertEqual(transformed("aB c1", "lower"), "ab c1")
        self.assertEqual(transformed("aB c1", "none"), "aB c1")
        self.assertEqual(transformed("", "upper"), "")

    def test_what_inputs_show(self):
        markup = ('<input value="a b"><input type="text"><input type="checkbox" value="v"><input type="checkbox" checked>'
                  '<input type="hidden" value="h"><input type="submit" value="Go"><input type value="t">')
        nodes = parse_markup(markup).root.children
        self.assertEqual([shown_value(node) for node in nodes], ["[a b]", "[]", "[ ]", "[x]", "", "[Go]", "[t]"])

    def test_inputs_show_what_they_have_now(self):
        text, mark = parse_markup('<input value="a"><input type="checkbox" checked>').root.children
        text.value = "new"
        mark.checked = False
        self.assertEqual((shown_value(text), shown_value(mark)), ("[new]", "[ ]"))


if __name__ == "__main__":
    unittest.main()
