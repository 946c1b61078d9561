"""Tokens of scripts [12]."""

import unittest

from pagestack.errors import ScriptError
from pagestack.scriptwords import ScriptToken, run_of, text_token, tokens_of

WORDS = "let if else while for in return break throw try catch function null true false".split()
SIGNS = "== != <= >= && || = < > + - * / ! ( ) [ ] { } , . : ;".split()


def shown(text):
    """Return the tokens of a text but for the end, shown."""
    tokens = [token.shown() for token in tokens_of(text)]
    assert tokens[-1][0] == "end"
    return tokens[:-1]


class Tokens(unittest.TestCase):
    def test_a_token(self):
        token = ScriptToken("number", 5)
        self.assertEqual((token.kind, token.value, token.shown()), ("number", 5, ("number", 5)))

    def test_names(self):
        self.assertEqual(shown("a Bc d_1 _x lets"), [("name", "a"), ("name", "Bc"), ("name", "d_1"), ("name", "_x"), ("name", "lets")])

    def test_words_and_signs_are_classes_of_their_own(self):
        for word in WORDS + SIGNS:
            self.assertEqual(shown(word), [(word, word)])

    def test_longer_signs_come_first(self):
        self.assertEqual([kind for kind, _ in shown("a===b<==!c!=-1&&d||e=>f")],
                         ["name", "==", "=", "name", "<=", "=", "!", "name", "!=", "-", "number", "&&", "name", "||", "name",
                          "=", ">", "name"])

    def test_numbers(self):
        self.assertEqual(shown("0 7 042 123456789"), [("number", 0), ("number", 7), ("number", 42), ("number", 123456789)])
        self.assertEqual(shown("000000001"), [("number", 1)])
        for text in ("1234567890", "0000000001", "a = 9999999999;"):
            with self.assertRaises(ScriptError):
                tokens_of(text)

    def test_numbers_and_names_side_by_side(self):
        self.assertEqual(shown("12ab 1.5"), [("number", 12), ("name", "ab"), ("number", 1), (".", "."), ("number", 5)])

    def test_texts(self):
        self.assertEqual(shown('"a b" "" "//" "let"'), [("text", "a b"), ("text", ""), ("text", "//"), ("text", "let")])
        self.assertEqual(shown('"a\\nb\\"c\\\\n"'), [("text", 'a\nb"c\\n')])
        self.assertEqual(shown('"a""b"'), [("text", "a"), ("text", "b")])

    def test_every_other_sign_after_a_backslash(self):
        for sign in [chr(code) for code in range(32, 127)] + ["\n"]:
            if sign not in 'n"\\':
                with self.assertRaises(ScriptError, msg=sign):
                    tokens_of('"a\\' + sign + 'b"')

    def test_texts_that_do_not_end(self):
        for text in ('"', '"abc', '"abc\\"', 'a "', '"\\', '"a" "b'):
            with self.assertRaises(ScriptError, msg=text):
                tokens_of(text)

    def test_blanks_and_remarks(self):
        self.assertEqual(shown(""), [])
        self.assertEqual(shown(" \n  \n"), [])
        self.assertEqual(shown("a // b \" @ 1234567890\n c"), [("name", "a"), ("name", "c")])
        self.assertEqual(shown("// a\n// b\n\n  // c"), [])
        self.assertEqual(shown("a//"), [("name", "a")])
        self.assertEqual(shown("a / / b"), [("name", "a"), ("/", "/"), ("/", "/"), ("name", "b")])

    def test_unknown_signs(self):
        for sign in "@#$%^&|'`~?\\\t":
            for text in (sign, "a " + sign + " b", sign + "="):
                with self.assertRaises(ScriptError, msg=text):
                    tokens_of(text)

    def test_the_end(self):
        self.assertEqual([token.kind for token in tokens_of("a")], ["name", "end"])
        self.assertEqual([token.kind for token in tokens_of("")], ["end"])

    def test_text_token(self):
        token, place = text_token('x = "a\\"b" + 1', 4)
        self.assertEqual((token.shown(), place), (("text", 'a"b'), 10))
        for text in ('"abc', '"a\\x"'):
            with self.assertRaises(ScriptError):
                text_token(text, 0)

    def test_run_of(self):
        self.assertEqual([run_of("aab1", place, "ab") for place in range(5)], [3, 3, 3, 3, 4])
        self.assertEqual(run_of("", 0, "ab"), 0)


if __name__ == "__main__":
    unittest.main()
