"""Values: what style properties may be, and which they have by themselves."""

from pagestack.errors import StyleError
from pagestack.texts import is_digits

COLOURS = ("black", "red", "green", "blue", "yellow", "white", "grey", "none")
WORDS = {
    "display": ("block", "inline", "none", "flex"),
    "text-align": ("left", "center", "right"),
    "position": ("static", "relative", "absolute"),
    "white-space": ("normal", "pre"),
    "overflow": ("visible", "hidden"),
    "justify": ("start", "center", "end", "between"),
    "visibility": ("visible", "hidden"),
    "text-transform": ("none", "upper", "lower"),
}
SIDES = ("top", "right", "bottom", "left")
LENGTHS = (
    "margin-top", "margin-right", "margin-bottom", "margin-left",
    "padding-top", "padding-right", "padding-bottom", "padding-left",
    "border", "width", "height", "min-width", "max-width", "left", "top",
)
WITH_AUTO = ("width", "height", "left", "top", "max-width", "margin-left", "margin-right")
WITHOUT_SHARE = ("border", "height", "top")
BELOW_ZERO = ("left", "top")
NUMBERS = ("z-index", "order", "grow")
MOST_DIGITS = 3
# Which of one to four lengths each side takes.
SIDE_PLACES = {1: (0, 0, 0, 0), 2: (0, 1, 0, 1), 3: (0, 1, 2, 1), 4: (0, 1, 2, 3)}


def all_names():
    """Return the names of all properties, in ascending order."""
    return tuple(sorted(list(WORDS) + list(LENGTHS) + list(NUMBERS) + ["color", "background"]))


def initial(name):
    """Return the value that a property has by itself."""
    if name == "display":
        return "inline"
    if name in WORDS:
        return WORDS[name][0]
    if name == "color":
        return "black"
    if name == "background":
        return "none"
    if name in NUMBERS:
        return 0
    if name in WITH_AUTO and not name.startswith("margin-"):
        return "auto"
    return ("cells", 0)


def is_number(text):
    """Return True for a whole number of at most three digits, perhaps after "-"."""
    return is_digits(text.removeprefix("-"), MOST_DIGITS)


def length_of(name, text):
    """Return the length of a text: ("cells", n), ("share", n) in hundredths, or "auto"; raise StyleError."""
    if text == "auto" and name in WITH_AUTO:
        return "auto"
    number = text
    kind = "cells"
    if text.endswith("pc") and name not in WITHOUT_SHARE:
        number = text.removesuffix("pc")
        kind = "share"
    if not is_number(number):
        raise StyleError("no length")
    if int(number) < 0 and name not in BELOW_ZERO:
        raise StyleError("a length below 0")
    return (kind, int(number))


def value_of(name, text):
    """Return the value of a property's text; raise StyleError for an unknown property, or another value."""
    if name not in all_names():
        raise StyleError("an unknown property")
    if text == "inherit":
        return text
    if name in ("color", "background"):
        if text not in COLOURS or (text == "none" and name == "color"):
            raise StyleError("no colour")
        return text
    if name in WORDS:
        if text not in WORDS[name]:
            raise StyleError("an unknown word")
        return text
    if name in LENGTHS:
        return length_of(name, text)
    if not is_number(text) or (int(text) < 0 and name == "grow"):
        raise StyleError("no number")
    return int(text)


def expanded(name, text):
    """Return the (name, value) rows of a declaration: margin and padding are for four sides."""
    if name not in ("margin", "padding"):
        return ((name, value_of(name, text)),)
    words = text.split()
    if not 0 < len(words) < 5 or "inherit" in words:
        raise StyleError("one to four lengths")
    rows = []
    for side, place in zip(SIDES, SIDE_PLACES[len(words)]):
        full = name + "-" + side
        rows.append((full, length_of(full, words[place])))
    return tuple(rows)


def value_text(value):
    """Return a value's text."""
    if not isinstance(value, tuple):
        return str(value)
    kind, told = value
    if kind == "use":
        return f"use({told})"
    return f"{told}pc" if kind == "share" else str(told)


def resolved(value, whole):
    """Return a length in cells, a share of a whole rounded down; "auto" stays."""
    if value == "auto":
        return value
    kind, many = value
    return whole * many // 100 if kind == "share" else many
