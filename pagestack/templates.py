"""Templates: markup with places for values in texts and quoted attributes, which never become markup themselves.

A template is markup with {name} for a value's text, {if name} .. {else} .. {end}, {each name as one} .. {end}, and
{{ for "{". Values are texts, whole numbers, truths, None, rows (tuples) and tables; {one.field} is a table's field.
"""

from pagestack.errors import TemplateError
from pagestack.markup import ENTITIES, RAW, TAG_SIGNS, escaped
from pagestack.texts import after_run

NAME_SIGNS = "abcdefghijklmnopqrstuvwxyz0123456789"
WORDS = ("if", "each", "else", "end", "as")
MOST_WITHIN = 20
MOST_MADE = 20000
# Places of markup: (kind, tag), the tag being "" unless the element has a raw text.
TEXT = ("text", "")
END_TAG = ("end", "")
REMARK = ("remark", "")
# Where a value may stand.
OPEN_KINDS = ("text", "quotes")


def after_mark(text, begin, mark):
    """Return the place behind a mark, None if it does not come."""
    found = text.find(mark, begin)
    return None if found < 0 else found + len(mark)


def raw_tag(tag):
    """Return a tag whose element has a raw text, "" for others."""
    return tag if tag in RAW else ""


def from_text(text, begin, tag):
    """Return the place of markup behind the next "<" of a text, and where it is, None if it does not come."""
    end = after_mark(text, begin, "<")
    if end is None:
        return (TEXT, None)
    if text.startswith("!--", end):
        return (REMARK, end + 3)
    name_end = after_run(text, end, TAG_SIGNS)
    # Without a name it is an end, which has no attributes, or nothing that can be read at all.
    return (END_TAG if name_end == end else ("tag", raw_tag(text[end:name_end])), name_end)


def from_tag(text, begin, tag):
    """Return the place of markup behind the next quote or ">" of a tag, and where it is."""
    end = after_mark(text, begin, ">")
    quote = after_mark(text, begin, '="')
    if quote is not None and (end is None or quote < end):
        return (("quotes", tag), quote)
    return (TEXT if tag == "" else ("raw", tag), end)


def from_quotes(text, begin, tag):
    """Return the place of markup behind the next quote, and where it is."""
    return (("tag", tag), after_mark(text, begin, '"'))


def from_end_tag(text, begin, tag):
    """Return the place of markup behind an end of an element, and where it is."""
    return (TEXT, after_mark(text, begin, ">"))


def from_remark(text, begin, tag):
    """Return the place of markup behind a remark, and where it is."""
    return (TEXT, after_mark(text, begin, "-->"))


def from_raw(text, begin, tag):
    """Return the place of markup behind a raw text and its end, and where it is."""
    return (TEXT, after_mark(text, begin, "</" + tag + ">"))


STEPS = {
    "text": from_text, "tag": from_tag, "quotes": from_quotes, "end": from_end_tag, "remark": from_remark,
    "raw": from_raw,
}


def moved_on(spot, text):
    """Return the place of markup to which a text leads from another one."""
    place = 0
    while place < len(text):
        kind, tag = spot
        step = STEPS[kind]
        found, end = step(text, place, tag)
        if end is None:
            return spot
        spot = found
        place = end
    return spot


def ends_in_entity(text):
    """Return True if what follows a text could go on with an entity that begins in it."""
    _, sign, rest = text.rpartition("&")
    return sign != "" and any(name.startswith(rest) for name in ENTITIES)


def is_name(text):
    """Return True for small letters and digits that are none of the words."""
    return text != "" and text not in WORDS and all(sign in NAME_SIGNS for sign in text)


def path_in(text):
    """Return a text that is a path, names parted by "."; raise TemplateError for others."""
    if not all(is_name(name) for name in text.split(".")):
        raise TemplateError("no path")
    return text


class TemplateReader:
    """A text and a place in it, where that is in the markup, and how many ifs and eachs are open there."""

    def __init__(self, text):
        self.text = text
        self.place = 0
        self.spot = TEXT
        self.nested = 0

    def take_text(self):
        """Move past a text up to the next place for values, with {{ as "{", and return it."""
        found = []
        while self.place < len(self.text):
            begin = self.place
            end = self.text.find("{", begin)
            self.place = len(self.text) if end < 0 else end
            found.append(self.text[begin:self.place])
            if not self.text.startswith("{{", self.place):
                break
            found.append("{")
            self.place += 2
        return "".join(found)

    def take_words(self, before):
        """Move past a place for values behind a text and return its words; raise TemplateError for none here."""
        if self.spot[0] not in OPEN_KINDS or ends_in_entity(before):
            raise TemplateError("no values may stand here")
        end = self.text.find("}", self.place)
        if end < 0:
            raise TemplateError("a place for values does not end")
        words = self.text[self.place + 1:end].split(" ")
        self.place = end + 1
        return words

    def read_parts(self):
        """Move past parts; return them and the word that ends them, "" at the text's end."""
        parts = []
        while True:
            text = self.take_text()
            self.spot = moved_on(self.spot, text)
            if text != "":
                parts.append(text)
            if self.place >= len(self.text):
                return (tuple(parts), "")
            words = self.take_words(text)
            if words == ["else"] or words == ["end"]:
                return (tuple(parts), words[0])
            parts.append(self.read_place(words))

    def read_place(self, words):
        """Return the part that begins with a place's words, having moved past it."""
        if len(words) == 1:
            return ("value", path_in(words[0]))
        if len(words) == 2 and words[0] == "if":
            return self.read_if(path_in(words[1]))
        if len(words) == 4 and words[0] == "each" and words[2] == "as" and is_name(words[3]):
            return self.read_each(path_in(words[1]), words[3])
        raise TemplateError("no such place for values")

    def begin_part(self):
        """Count an if or each that is open from now on; raise TemplateError for too many within each other."""
        self.nested += 1
        if self.nested > MOST_WITHIN:
            raise TemplateError("too many within each other")

    def need_end(self, word):
        """Count an if or each no longer as open; raise TemplateError if it is not its end that comes."""
        self.nested -= 1
        if word != "end":
            raise TemplateError("expected an end")

    def read_if(self, path):
        """Return an if, having moved past its parts; both ways lead to one place of markup."""
        self.begin_part()
        begin = self.spot
        parts, word = self.read_parts()
        reached = self.spot
        self.spot = begin
        others = ()
        if word == "else":
            others, word = self.read_parts()
        self.need_end(word)
        if self.spot != reached:
            raise TemplateError("the ways of an if lead to different places")
        return ("if", path, parts, others)

    def read_each(self, path, name):
        """Return an each, having moved past its parts, which lead to where they begin."""
        self.begin_part()
        begin = self.spot
        parts, word = self.read_parts()
        self.need_end(word)
        if self.spot != begin:
            raise TemplateError("an each leads to another place")
        return ("each", path, name, parts)


def parse_template(text):
    """Return the parts of a template: texts, ("value", path), ("if", path, parts, parts), ("each", path, name, parts).

    A path is a text, too. Raise TemplateError for signs that do not fit, and for places where no value may stand.
    """
    parts, word = TemplateReader(text).read_parts()
    if word != "":
        raise TemplateError("an end without a beginning")
    return parts


def is_yes(value):
    """Return True for a value that an if takes as true: not None, false, 0, an empty text, row or table."""
    return bool(value)


def text_of_value(value):
    """Return a value's text: nothing for None, yes and no for truths; raise TemplateError for rows and tables."""
    if value is None:
        return ""
    if value is True or value is False:
        return "yes" if value else "no"
    if not isinstance(value, (str, int)):
        raise TemplateError("no text")
    return str(value)


def value_at(path, values):
    """Return the value to which a path leads from a table; raise TemplateError if there is none."""
    found = values
    for name in path.split("."):
        if not isinstance(found, dict) or name not in found:
            raise TemplateError("no such value")
        found = found[name]
    return found


class Filling:
    """The texts that a template was filled into so far, and their length."""

    def __init__(self):
        self.texts = []
        self.size = 0

    def put(self, text):
        """Add a text at the end; raise TemplateError if it is too long then."""
        self.texts.append(text)
        self.size += len(text)
        if self.size > MOST_MADE:
            raise TemplateError("too long")

    def put_parts(self, parts, values):
        """Add parts with values at the end."""
        for part in parts:
            if isinstance(part, str):
                self.put(part)
            elif part[0] == "value":
                self.put(escaped(text_of_value(value_at(part[1], values))))
            elif part[0] == "if":
                self.put_parts(part[2] if is_yes(value_at(part[1], values)) else part[3], values)
            else:
                self.put_each(part, values)

    def put_each(self, part, values):
        """Add the parts of an each for each row, which is known by the each's name within."""
        _, path, name, parts = part
        rows = value_at(path, values)
        if not isinstance(rows, tuple):
            raise TemplateError("no rows")
        for row in rows:
            inner = dict(values)
            inner[name] = row
            self.put_parts(parts, inner)


def fill_template(parts, values):
    """Return the markup of a template's parts with values, in which signs of markup are entities.

    Raise TemplateError for a value that is not there or does not fit, or more than 20000 characters.
    """
    filling = Filling()
    filling.put_parts(parts, values)
    return "".join(filling.texts)


def part_text(part):
    """Return the text of a part of a template."""
    if isinstance(part, str):
        return part.replace("{", "{{")
    path = part[1]
    if part[0] == "value":
        return "{" + path + "}"
    if part[0] == "each":
        return "{each " + path + " as " + part[2] + "}" + template_text(part[3]) + "{end}"
    other = "" if part[3] == () else "{else}" + template_text(part[3])
    return "{if " + path + "}" + template_text(part[2]) + other + "{end}"


def template_text(parts):
    """Return the text of a template's parts."""
    return "".join([part_text(part) for part in parts])


def note_names(parts, own, found):
    """Add the first names of paths in parts to a table, but those of the eachs around."""
    for part in parts:
        if isinstance(part, str):
            continue
        name = part[1].partition(".")[0]
        if name not in own:
            found[name] = True
        if part[0] == "if":
            note_names(part[2] + part[3], own, found)
        elif part[0] == "each":
            note_names(part[3], own + (part[2],), found)


def names_asked(parts):
    """Return the first names of all paths that a template asks for, but those of its own eachs, ascending."""
    found = {}
    note_names(parts, (), found)
    return tuple(sorted(found))
