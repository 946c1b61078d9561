"""Texts: what the readers of texts have in common."""

BLANKS = " \n"
DIGITS = "0123456789"


def after_run(text, place, signs):
    """Return the place behind a run of signs, which is the place itself where none stands."""
    while place < len(text) and text[place] in signs:
        place += 1
    return place


def is_digits(text, most):
    """Return True for one digit or more, but not more than so many."""
    return 0 < len(text) <= most and all(sign in DIGITS for sign in text)


def is_visible(text):
    """Return True for a text without blanks, line ends and the like, and without signs beyond "~"."""
    return all("!" <= sign <= "~" for sign in text)
