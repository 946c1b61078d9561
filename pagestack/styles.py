"""Styles: texts to rules, with conditions on the width of the window and names for values."""

from pagestack.errors import StyleError
from pagestack.selectors import NAME_SIGNS, parse_selectors, selector_text
from pagestack.texts import after_run
from pagestack.values import all_names, expanded, is_number, value_text

BRACKETS = "()[]{}"
IMPORTANT = "!important"
CONDITION = "@width"


class Declaration:
    """A property's name, its value, and whether it is important; ("use", name) is the value that uses a name."""

    def __init__(self, name, value, important):
        self.name = name
        self.value = value
        self.important = important

    def shown(self):
        """Return (name, value, importance)."""
        return (self.name, self.value, self.important)


class Rule:
    """Selectors, declarations, and the least and greatest width of the window for which it holds (None for any)."""

    def __init__(self, selectors, declarations, least=None, most=None):
        self.selectors = tuple(selectors)
        self.declarations = tuple(declarations)
        self.least = least
        self.most = most

    def holds(self, width):
        """Return True if the rule is for a window of a width."""
        if self.least is not None and width < self.least:
            return False
        return self.most is None or width <= self.most

    def shown(self):
        """Return (selectors' texts, declarations, least, most)."""
        selectors = tuple(selector_text(selector) for selector in self.selectors)
        declarations = tuple(declaration.shown() for declaration in self.declarations)
        return (selectors, declarations, self.least, self.most)


def without_remarks(text):
    """Return a text without what stands between /* and */; raise StyleError for one that does not end."""
    found = []
    before, begin, rest = text.partition("/*")
    while begin != "":
        found.append(before)
        _, end, rest = rest.partition("*/")
        if end == "":
            raise StyleError("a remark does not end")
        before, begin, rest = rest.partition("/*")
    found.append(before)
    # A blank stands for each remark, or the words on its sides would become one.
    return " ".join(found)


def is_named(text):
    """Return True for "--" and a name."""
    return text.startswith("--") and len(text) > 2 and after_run(text, 0, NAME_SIGNS) == len(text)


def value_rows(name, text):
    """Return the (name, value) rows of a declaration, of which a named text and a use have one; raise StyleError."""
    if is_named(name):
        if any(sign in BRACKETS for sign in text):
            raise StyleError("a bracket in a named text")
        return ((name, text),)
    used = text.removeprefix("use(").removesuffix(")")
    if text == "use(" + used + ")" and is_named(used) and name in all_names():
        return ((name, ("use", used)),)
    return expanded(name, text)


def declarations_in(part):
    """Return the declarations of a text between two ";": none for blanks, one for each side that it is for."""
    if part.strip() == "":
        return []
    name, sign, value = part.partition(":")
    name = name.strip()
    value = value.strip()
    important = value.endswith(IMPORTANT)
    value = value.removesuffix(IMPORTANT).strip()
    if sign == "" or name == "" or value == "":
        raise StyleError("expected a name and a value")
    return [Declaration(row[0], row[1], important) for row in value_rows(name, value)]


def declarations_of(text):
    """Return the declarations of a text, parted by ";"; raise StyleError."""
    found = []
    for part in without_remarks(text).split(";"):
        found.extend(declarations_in(part))
    return tuple(found)


def after_sign(text, place):
    """Return the place after a sign, or after the value of a selector's attribute, in which braces are signs only."""
    name_end = after_run(text, place + 1, NAME_SIGNS)
    if text[place] == "[" and text.startswith('="', name_end):
        return max(place, text.find('"', name_end + 2)) + 1
    return place + 1


def brace_from(text, place):
    """Return the place of the first opening brace from a place on, the text's end for none."""
    while place < len(text) and text[place] != "{":
        place = after_sign(text, place)
    return place


def block_at(text, place):
    """Return (text within braces, the place after them) from an opening brace on; raise StyleError."""
    depth = 0
    end = place
    while end < len(text):
        if text[end] == "{":
            depth += 1
        elif text[end] == "}":
            depth -= 1
        end = after_sign(text, end)
        if depth == 0:
            return (text[place + 1:end - 1], end)
    raise StyleError("a brace does not close")


def bound_of(text):
    """Return (word, number) of "(min N)" or "(max N)"; raise StyleError."""
    words = text.strip()
    if not words.startswith("(") or not words.endswith(")"):
        raise StyleError("no condition")
    word, _, number = words[1:-1].strip().partition(" ")
    number = number.strip()
    if word not in ("min", "max") or not is_number(number) or int(number) < 0:
        raise StyleError("no condition")
    return (word, int(number))


def width_of(text):
    """Return (least, most) of a condition: "(min N)", "(max N)", or both with "and"; raise StyleError."""
    bounds = {}
    for part in text.split("and"):
        word, number = bound_of(part)
        if word in bounds:
            raise StyleError("a bound is told twice")
        bounds[word] = number
    return (bounds.get("min"), bounds.get("max"))


def blocks_of(text):
    """Return (what stands before the braces, what stands within) of all blocks of a text; raise StyleError."""
    found = []
    place = 0
    brace = brace_from(text, place)
    while brace < len(text):
        head = text[place:brace].strip()
        inner, place = block_at(text, brace)
        found.append((head, inner))
        brace = brace_from(text, place)
    if text[place:].strip() != "":
        raise StyleError("expected a block")
    return found


def plain_rules(text, least, most):
    """Return the rules of a text without conditions; raise StyleError."""
    return [Rule(parse_selectors(head), declarations_of(inner), least, most) for head, inner in blocks_of(text)]


def parse_styles(text):
    """Return the rules of a text, in order; raise StyleError."""
    found = []
    for head, inner in blocks_of(without_remarks(text)):
        if head.startswith(CONDITION):
            least, most = width_of(head.removeprefix(CONDITION))
            found.extend(plain_rules(inner, least, most))
        else:
            found.append(Rule(parse_selectors(head), declarations_of(inner)))
    return tuple(found)


def declaration_text(declaration):
    """Return a declaration's text."""
    mark = " " + IMPORTANT if declaration.important else ""
    return declaration.name + ": " + value_text(declaration.value) + mark + ";"


def condition_text(rule):
    """Return the text of a rule's condition, "" for none."""
    bounds = []
    if rule.least is not None:
        bounds.append(f"(min {rule.least})")
    if rule.most is not None:
        bounds.append(f"(max {rule.most})")
    return " and ".join(bounds)


def rule_text(rule):
    """Return a rule's text."""
    words = [", ".join(selector_text(selector) for selector in rule.selectors), "{"]
    words.extend([declaration_text(declaration) for declaration in rule.declarations])
    words.append("}")
    condition = condition_text(rule)
    if condition != "":
        words = [CONDITION, condition, "{", *words, "}"]
    return " ".join(words)


def styles_text(rules):
    """Return the text of rules, a line each."""
    return "".join(rule_text(rule) + "\n" for rule in rules)
