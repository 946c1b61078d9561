"""Script words: texts of scripts to tokens."""

from pagestack.errors import ScriptError
from pagestack.texts import BLANKS, DIGITS, after_run

FIRST_SIGNS = "abcdefghijklmnopqrstuvwxyzABCDEFGHIJKLMNOPQRSTUVWXYZ_"
WORDS = (
    "let", "if", "else", "while", "for", "in", "return", "break", "throw", "try", "catch", "function",
    "null", "true", "false",
)
# Longer signs stand before those with which they begin.
SIGNS = (
    "==", "!=", "<=", ">=", "&&", "||", "=", "<", ">", "+", "-", "*", "/", "!",
    "(", ")", "[", "]", "{", "}", ",", ".", ":", ";",
)
MOST_DIGITS = 9


class ScriptToken:
    """A token: "name", "number", "text", a word or a sign; and its value, which for words and signs is themselves."""

    def __init__(self, kind, value):
        self.kind = kind
        self.value = value

    def shown(self):
        """Return (class, value)."""
        return (self.kind, self.value)


def text_token(text, place):
    """Return (token, the place after it) of a text in quotes that begins at a place; raise ScriptError."""
    found = []
    place += 1
    while place < len(text) and text[place] != '"':
        sign = text[place]
        place += 1
        if sign == "\\":
            sign = text[place:place + 1]
            if sign not in ("n", '"', "\\"):
                raise ScriptError("an unknown sign after a backslash")
            sign = "\n" if sign == "n" else sign
            place += 1
        found.append(sign)
    if place >= len(text):
        raise ScriptError("a text does not end")
    return (ScriptToken("text", "".join(found)), place + 1)


def run_of(text, place, signs):
    """Return the place after a run of characters."""
    return after_run(text, place, signs)


def number_token(text, place):
    """Return (token, the place after it) of a number that begins at a place; raise ScriptError."""
    end = run_of(text, place, DIGITS)
    if end - place > MOST_DIGITS:
        raise ScriptError("a number is too great")
    return (ScriptToken("number", int(text[place:end])), end)


def word_token(text, place):
    """Return (token, the place after it) of a name or a word that begins at a place."""
    end = run_of(text, place, FIRST_SIGNS + DIGITS)
    word = text[place:end]
    return (ScriptToken(word if word in WORDS else "name", word), end)


def sign_token(text, place):
    """Return (token, the place after it) of a sign that begins at a place; raise ScriptError."""
    signs = [sign for sign in SIGNS if text.startswith(sign, place)]
    if signs == []:
        raise ScriptError("an unknown sign")
    return (ScriptToken(signs[0], signs[0]), place + len(signs[0]))


def token_at(text, place):
    """Return (token, the place after it) of what begins at a place; raise ScriptError."""
    if text[place] == '"':
        return text_token(text, place)
    if text[place] in DIGITS:
        return number_token(text, place)
    if text[place] in FIRST_SIGNS:
        return word_token(text, place)
    return sign_token(text, place)


def after_blanks(text, place):
    """Return the place behind blanks, line ends and remarks."""
    place = run_of(text, place, BLANKS)
    while text.startswith("//", place):
        end = text.find("\n", place)
        place = len(text) if end < 0 else run_of(text, end, BLANKS)
    return place


def tokens_of(text):
    """Return the tokens of a script, the last one being "end"; raise ScriptError."""
    found = []
    place = after_blanks(text, 0)
    while place < len(text):
        token, end = token_at(text, place)
        found.append(token)
        place = after_blanks(text, end)
    found.append(ScriptToken("end", ""))
    return found
