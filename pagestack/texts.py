"""Texts: what the readers of markup, selectors and styles have in common."""

BLANKS = " \n"


def after_run(text, place, signs):
    """Return the place behind a run of signs, which is the place itself where none stands."""
    while place < len(text) and text[place] in signs:
        place += 1
    return place
