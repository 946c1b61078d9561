"""Lines that are broken [8]."""

import unittest

from pagestack.boxes import Piece
from pagestack.lines import Line, break_lines, widest
from pagestack.nodes import Document

DOCUMENT = Document()
NODE = DOCUMENT.make("b")
OTHER = DOCUMENT.make("i")


def pieces_of(text, node=NODE):
    """Return pieces: words, a space for each blank, "|" for a line's end, runs of "#" for things."""
    found = []
    for place, sign in enumerate(text):
        if sign == " ":
            found.append(Piece("space", " ", node, 1))
        elif sign == "|":
            found.append(Piece("end", "", node, 0))
        else:
            kind = "thing" if sign == "#" else "word"
            if place > 0 and found[-1].kind == kind and text[place - 1] not in " |":
                found[-1] = Piece(kind, found[-1].text + sign, node, found[-1].width + 1)
            else:
                found.append(Piece(kind, sign, node, 1))
    return found


def text_of(line):
    """Return a line's letters, blanks in front of them too."""
    text = ""
    for place, letters, _, _ in line.runs:
        text = text.ljust(place) + letters
    return text


def rows(text, width, align="left"):
    """Return the letters of the lines of a text."""
    return [text_of(line) for line in break_lines(pieces_of(text), width, align)]


class Lines(unittest.TestCase):
    def test_a_line(self):
        line = Line()
        self.assertEqual((line.runs, line.width), ([], 0))
        self.assertIsNot(Line().runs, line.runs)
        line.add(Piece("word", "abcdef", NODE, 6), "abc")
        line.add(Piece("space", " ", OTHER, 1), " ")
        line.add(Piece("thing", "##", OTHER, 2), "##")
        self.assertEqual(line.runs, [(0, "abc", NODE, 3), (3, " ", OTHER, 1), (4, "##", OTHER, 2)])
        self.assertEqual(line.width, 6)

    def test_words_and_spaces(self):
        self.assertEqual(rows("ab cd ef", 5), ["ab cd", "ef"])
        self.assertEqual(rows("ab cd ef", 8), ["ab cd ef"])
        self.assertEqual(rows("ab cd ef", 7), ["ab cd", "ef"])

    def test_a_word_that_just_fits_and_one_that_just_does_not(self):
        self.assertEqual(rows("ab cd", 5), ["ab cd"])
        self.assertEqual(rows("ab cd", 4), ["ab", "cd"])

    def test_spaces_at_beginnings_ends_and_in_a_row(self):
        self.assertEqual(rows("   ab   cd   ", 10), ["ab cd"])
        self.assertEqual(rows("ab   |   cd", 10), ["ab", "cd"])
        self.assertEqual(rows("   ", 10), [])
        self.assertEqual(rows("   |ab", 10), ["", "ab"])
        self.assertEqual(rows("ab      cd", 4), ["ab", "cd"])

    def test_a_word_that_is_too_wide_goes_on(self):
        self.assertEqual(rows("abcdefgh", 3), ["abc", "def", "gh"])
        self.assertEqual(rows("abcdef", 3), ["abc", "def"])
        self.assertEqual(rows("x abcdefgh y", 3), ["x", "abc", "def", "gh", "y"])
        self.assertEqual(rows("xy abcd z", 4), ["xy", "abcd", "z"])

    def test_words_side_by_side_fill_the_line(self):
        pieces = [Piece("word", "abc", NODE, 3), Piece("word", "defg", OTHER, 4)]
        lines = break_lines(pieces, 5, "left")
        self.assertEqual([line.runs for line in lines],
                         [[(0, "abc", NODE, 3), (3, "de", OTHER, 2)], [(0, "fg", OTHER, 2)]])
        self.assertEqual([line.width for line in lines], [5, 2])
        lines = break_lines(pieces, 3, "left")
        self.assertEqual([line.runs for line in lines],
                         [[(0, "abc", NODE, 3)], [(0, "def", OTHER, 3)], [(0, "g", OTHER, 1)]])

    def test_only_the_piece_behind_a_space_is_asked_to_fit(self):
        pieces = pieces_of("ab cd") + [Piece("word", "ef", OTHER, 2)]
        self.assertEqual([text_of(line) for line in break_lines(pieces, 6, "left")], ["ab cde", "f"])

    def test_a_space_has_the_look_of_the_last_one(self):
        pieces = [Piece("word", "a", NODE, 1), Piece("space", " ", NODE, 1), Piece("space", " ", OTHER, 1),
                  Piece("word", "b", NODE, 1)]
        self.assertEqual(break_lines(pieces, 9, "left")[0].runs, [(0, "a", NODE, 1), (1, " ", OTHER, 1), (2, "b", NODE, 1)])

    def test_line_ends(self):
        self.assertEqual(rows("a||b", 5), ["a", "", "b"])
        self.assertEqual(rows("a|", 5), ["a"])
        self.assertEqual(rows("a||", 5), ["a", ""])
        self.assertEqual(rows("|a", 5), ["", "a"])
        self.assertEqual(rows("|", 5), [""])
        self.assertEqual(rows("", 5), [])

    def test_a_full_line_and_then_an_end(self):
        self.assertEqual(rows("abc|d", 3), ["abc", "d"])

    def test_things(self):
        self.assertEqual(rows("ab ## cd", 5), ["ab ##", "cd"])
        self.assertEqual(rows("ab ###", 5), ["ab", "###"])
        self.assertEqual(rows("ab###", 4), ["ab###"])
        self.assertEqual(rows("######", 4), ["######"])
        self.assertEqual(rows("###### a", 4), ["######", "a"])
        self.assertEqual(rows("a######b", 4), ["a######", "b"])
        self.assertEqual(rows("a######bcdefg", 4), ["a######", "bcde", "fg"])

    def test_things_side_by_side(self):
        pieces = [Piece("thing", "##", NODE, 2), Piece("thing", "[x]", OTHER, 3)]
        lines = break_lines(pieces, 3, "left")
        self.assertEqual([line.runs for line in lines], [[(0, "##", NODE, 2), (2, "[x]", OTHER, 3)]])

    def test_a_thing_without_a_width_is_something(self):
        pieces = [Piece("thing", "", NODE, 0)]
        self.assertEqual([line.runs for line in break_lines(pieces, 3, "left")], [[(0, "", NODE, 0)]])

    def test_widths_of_one_and_below(self):
        for width in (1, 0, -1, -7):
            self.assertEqual(rows("abc d", width), ["a", "b", "c", "d"], width)
            self.assertEqual(rows("## #", width), ["##", "#"], width)

    def test_whether_something_fits_behind_a_space_is_asked_by_the_width_itself(self):
        pieces = [Piece("thing", "", NODE, 0), Piece("space", " ", NODE, 1), Piece("thing", "", NODE, 0)]
        self.assertEqual(len(break_lines(pieces, 1, "left")), 1)
        self.assertEqual(len(break_lines(pieces, 0, "left")), 2)

    def test_alignment(self):
        self.assertEqual(rows("abc d", 8, "left"), ["abc d"])
        self.assertEqual(rows("abc d", 8, "center"), [" abc d"])
        self.assertEqual(rows("abc d", 8, "right"), ["   abc d"])
        self.assertEqual(rows("abcd|ab", 4, "center"), ["abcd", " ab"])

    def test_alignment_of_odd_rests(self):
        self.assertEqual(rows("ab", 5, "center"), [" ab"])
        self.assertEqual(rows("ab", 3, "center"), ["ab"])

    def test_alignment_moves_all_runs_and_keeps_widths(self):
        lines = break_lines(pieces_of("ab c"), 10, "right")
        self.assertEqual(lines[0].runs, [(6, "ab", NODE, 2), (8, " ", NODE, 1), (9, "c", NODE, 1)])
        self.assertEqual(lines[0].width, 4)

    def test_a_line_over_its_end_begins_at_0(self):
        for align in ("left", "center", "right"):
            self.assertEqual(rows("#######", 4, align), ["#######"])

    def test_widest(self):
        self.assertEqual(widest(pieces_of("ab cd ef")), 8)
        self.assertEqual(widest(pieces_of("  ab   cd  ")), 5)
        self.assertEqual(widest(pieces_of("ab|cdef g|h")), 6)
        self.assertEqual(widest(pieces_of("ab ###x")), 7)
        self.assertEqual(widest(pieces_of("  ")), 0)
        self.assertEqual(widest(pieces_of("|")), 0)
        self.assertEqual(widest([]), 0)

    def test_pieces_are_left_as_they_are(self):
        pieces = pieces_of("abcdef gh")
        break_lines(pieces, 2, "center")
        self.assertEqual([piece.shown() for piece in pieces],
                         [("word", "abcdef", 1), ("space", " ", 1), ("word", "gh", 1)])


if __name__ == "__main__":
    unittest.main()
