"""Styles as texts [5]."""

import random
import unittest

from pagestack.errors import StyleError
from pagestack.selectors import parse_selectors
from pagestack.styles import (Declaration, Rule, block_at, declaration_text, declarations_of, parse_styles, rule_text,
                              styles_text, width_of, without_remarks)


def told(text):
    """Return the declarations of a text as they are shown."""
    return [declaration.shown() for declaration in declarations_of(text)]


def shown(text):
    """Return the rules of a text as they are shown."""
    return [rule.shown() for rule in parse_styles(text)]


class Remarks(unittest.TestCase):
    def test_a_blank_stands_in_their_place(self):
        rows = (("", ""), ("a", "a"), ("a/* b */c", "a c"), ("/**/", " "), ("a/*b*//*c*/d", "a  d"), ("/*/ */x", " x"),
                ("a /* /* */ b */", "a   b */"), ("/* a\nb */c", " c"), ("a * / b", "a * / b"))
        for text, wanted in rows:
            self.assertEqual(without_remarks(text), wanted)

    def test_one_that_does_not_end(self):
        for text in ("/*", "a /* b", "/*/", "/* a */ /* b * /"):
            with self.assertRaises(StyleError, msg=text):
                without_remarks(text)
            with self.assertRaises(StyleError, msg=text):
                parse_styles("p { color: red } " + text)

    def test_in_their_place_in_styles(self):
        text = "/* a { b } */p/**/b/* } */{/* ; */color/**/:/* : */red/* ! */!important/* */;}/* end */"
        self.assertEqual(shown(text), [(("p b",), (("color", "red", True),), None, None)])
        self.assertEqual(told("color: red /* x */; --a: b/* c */d"), [("color", "red", False), ("--a", "b d", False)])
        for text in ("co/**/lor: red", "color: r/**/ed", "color: red !/**/important", "width: 1/**/0"):
            with self.assertRaises(StyleError, msg=text):
                declarations_of(text)


class Declarations(unittest.TestCase):
    def test_names_and_values(self):
        self.assertEqual(told("color: red"), [("color", "red", False)])
        self.assertEqual(told("color:red;"), [("color", "red", False)])
        self.assertEqual(told(" color : red ;\n width: 5pc;z-index:-2; grow: 3"),
                         [("color", "red", False), ("width", ("share", 5), False), ("z-index", -2, False), ("grow", 3, False)])
        self.assertEqual(told(""), [])
        self.assertEqual(told(" \n "), [])
        self.assertEqual(told("color: red; color: blue"), [("color", "red", False), ("color", "blue", False)])

    def test_importance(self):
        for text in ("color: red !important", "color:red!important;", "color: red   !important  ", "color: red\n!important\n;"):
            self.assertEqual(told(text), [("color", "red", True)])
        for text in ("color: !important", "color: red ! important", "color: red important", "color: red !important x",
                     "color: red !important !important", "color: !important red", "!important", "--a: !important"):
            with self.assertRaises(StyleError, msg=text):
                declarations_of(text)

    def test_sides_are_put_apart(self):
        rows = [("margin-top", ("cells", 1), True), ("margin-right", "auto", True), ("margin-bottom", ("cells", 2), True),
                ("margin-left", "auto", True), ("color", "inherit", False)]
        self.assertEqual(told("margin: 1 auto 2 !important; color: inherit"), rows)
        self.assertEqual([row[0] for row in told("padding: 1pc")],
                         ["padding-top", "padding-right", "padding-bottom", "padding-left"])
        for text in ("margin: inherit", "margin: use(--a)", "padding: 1 use(--a)", "margin: 1 2 3 4 5", "margin:", "margin: auto"):
            with self.assertRaises(StyleError, msg=text):
                declarations_of(text)

    def test_named_texts(self):
        self.assertEqual(told("--a: red"), [("--a", "red", False)])
        self.assertEqual(told("--a-b_1:  x:  y!  !important"), [("--a-b_1", "x:  y!", True)])
        for text in ("--a:", "--a: ;", "--a", "--: red", "-a: red", "a--b: red", "--A: red", "--a b: red", "--a: use(--b)",
                     "--a: (", "--a: b)"):
            with self.assertRaises(StyleError, msg=text):
                declarations_of(text)

    def test_named_texts_have_all_signs_but_brackets(self):
        for sign in map(chr, range(33, 127)):
            if sign in "()[]{}":
                with self.assertRaises(StyleError, msg=sign):
                    declarations_of("--a: b" + sign + "c")
            elif sign != ";":
                self.assertEqual(told("--a: b" + sign + "c"), [("--a", "b" + sign + "c", False)])

    def test_uses_of_names(self):
        self.assertEqual(told("color: use(--a)"), [("color", ("use", "--a"), False)])
        self.assertEqual(told("margin-left: use(--a-1) !important"), [("margin-left", ("use", "--a-1"), True)])
        for text in ("color: use()", "color: use(a)", "color: use(--)", "color: use(--a", "color: use --a", "color: use(--a) red",
                     "color: red use(--a)", "color: use(--a)(--b)", "color: USE(--a)", "colour: use(--a)", "color: use(--A)"):
            with self.assertRaises(StyleError, msg=text):
                declarations_of(text)

    def test_what_is_no_declaration(self):
        for text in ("color", "color red", ": red", "color:", "color: ;", "red", "Color: red", "colour: red", "color: pink",
                     "color: red, blue", "color = red", "color: red} p {", "{}", "color: red; x", "width: 1000", "display: auto"):
            with self.assertRaises(StyleError, msg=text):
                declarations_of(text)

    def test_a_declaration_and_its_text(self):
        declaration = Declaration("color", "red", True)
        self.assertEqual((declaration.name, declaration.value, declaration.important), ("color", "red", True))
        self.assertEqual(declaration.shown(), ("color", "red", True))
        for text in ("color: red;", "width: 50pc !important;", "left: -3;", "--a: x  y;", "top: use(--b) !important;"):
            declarations = declarations_of(text)
            self.assertEqual(declaration_text(declarations[0]), text)


class Blocks(unittest.TestCase):
    def test_blocks(self):
        self.assertEqual(block_at("{}", 0), ("", 2))
        self.assertEqual(block_at("p { a } q", 2), (" a ", 7))
        self.assertEqual(block_at("{a{b}{c{}}d}e{f}", 0), ("a{b}{c{}}d", 12))
        self.assertEqual(block_at("{a{b}}", 2), ("b", 5))

    def test_braces_that_do_not_close(self):
        for text in ("{", "{a", "{a{b}", "{{}"):
            with self.assertRaises(StyleError, msg=text):
                block_at(text, 0)
        for text in ("p {", "p { color: red", "p { color: red; q { color: red }", "@width (min 1) {", "@width (min 1) { p { }",
                     "p { } }", "}", "p }", "p { color: red } } q { }", "p { color: { red }"):
            with self.assertRaises(StyleError, msg=text):
                parse_styles(text)

    def test_braces_in_values_of_attributes_are_signs(self):
        text = '@width (max 3) { [a="}{"] { color: red } } [b="{"], [c="}"] { color: blue }'
        self.assertEqual([row[0] for row in shown(text)], [('[a="}{"]',), ('[b="{"]', '[c="}"]')])
        text = '[t] { color: red } [u=""] { color: red } [v="{"] { color: red }'
        self.assertEqual([row[0] for row in shown(text)], [("[t]",), ('[u=""]',), ('[v="{"]',)])

    def test_quotes_elsewhere_are_signs(self):
        rows = shown('p { --a: b="c; } q { --d: e"f; }')
        self.assertEqual([row[1] for row in rows], [(("--a", 'b="c', False),), (("--d", 'e"f', False),)])


class Conditions(unittest.TestCase):
    def test_conditions(self):
        rows = (("(min 20)", (20, None)), ("(max 40)", (None, 40)), ("(min 20) and (max 40)", (20, 40)),
                ("(max 40) and (min 20)", (20, 40)), (" (min 0) ", (0, None)), ("(max 999)", (None, 999)))
        for text, wanted in rows:
            self.assertEqual(width_of(text), wanted)

    def test_what_is_no_condition(self):
        for text in ("", " ", "min 20", "(min 20", "min 20)", "xmin 20)", "()", "(min)", "(20)", "(min x)", "(min -1)", "(min 1000)", "(mid 3)",
                     "(min 1 2)", "(min 1) (max 2)", "(min 1) and", "and (min 1)", "(min 1) or (max 2)", "(min 1) and (min 2)",
                     "(min 1) and (max 2) and (max 3)", "((min 1))", "(MIN 1)", "(min 1) and max 2", "(min 1pc)", "("):
            with self.assertRaises(StyleError, msg=text):
                width_of(text)
            with self.assertRaises(StyleError, msg=text):
                parse_styles("@width " + text + " { p { color: red } }")

    def test_rules_of_conditions(self):
        text = "p { } @width (min 20) { b { color: red } i, u { } } q { } @width (min 3) and (max 9) { s { } } @width (max 5) { }"
        rows = [(row[0], row[2], row[3]) for row in shown(text)]
        self.assertEqual(rows, [(("p",), None, None), (("b",), 20, None), (("i", "u"), 20, None), (("q",), None, None),
                                (("s",), 3, 9)])

    def test_a_condition_within_a_condition(self):
        for text in ("@width (min 1) { @width (max 2) { p { color: red } } }", "@width (min 1) { @width (max 2) { } }",
                     "p { @width (max 2) { color: red } }"):
            with self.assertRaises(StyleError, msg=text):
                parse_styles(text)

    def test_the_windows_of_a_condition(self):
        selectors = parse_selectors("p")
        wanted = {(None, None): [True] * 5, (5, None): [False, True, True, True, True],
                  (None, 8): [True, True, True, True, False], (5, 8): [False, True, True, True, False], (8, 5): [False] * 5}
        for (least, most), rows in wanted.items():
            rule = Rule(selectors, (), least, most)
            self.assertEqual([rule.holds(width) for width in (4, 5, 6, 8, 9)], rows)


class Rules(unittest.TestCase):
    def test_a_rule_and_its_fields(self):
        rule = Rule(parse_selectors("p, .a"), declarations_of("color: red"), most=4)
        self.assertEqual((rule.least, rule.most), (None, 4))
        self.assertEqual(len(rule.selectors), 2)
        self.assertEqual(rule.declarations[0].name, "color")
        self.assertIsInstance(rule.declarations, tuple)
        self.assertEqual(rule.shown(), (("p", ".a"), (("color", "red", False),), None, 4))
        self.assertEqual(Rule((), ()).shown(), ((), (), None, None))

    def test_rules_in_order(self):
        self.assertEqual(parse_styles(""), ())
        self.assertEqual(parse_styles(" \n/* x */ "), ())
        text = "p{color:red}#a.b > c ,\nd{width:1;height:2;}e{}"
        self.assertEqual(shown(text), [(("p",), (("color", "red", False),), None, None),
                                       (("#a.b > c", "d"), (("width", ("cells", 1), False), ("height", ("cells", 2), False)), None, None),
                                       (("e",), (), None, None)])

    def test_what_is_no_style(self):
        for text in ("p", "p;", "{ color: red }", "p, { color: red }", "p { color: red } q", "p { colour: red }", "P { color: red }",
                     "@media (min 1) { p { } }", "@width { p { } }", "@import x;", "p { color: red; q: }", "p { q { } }", "p ( )",
                     "@width (min 1) { color: red }", "@width (min 1) p { color: red }", "@widths (min 1) { }", "p {} ;"):
            with self.assertRaises(StyleError, msg=text):
                parse_styles(text)

    def test_texts_of_rules(self):
        text = 'p > b, [t="u"] { color: red; width: 5pc !important; }\n@width (min 2) and (max 9) { * { --a: x y; left: use(--a); } }\n'
        rules = parse_styles(text)
        self.assertEqual(styles_text(rules), text)
        self.assertEqual([rule_text(rule) for rule in rules], text.split("\n")[:2])
        self.assertEqual(styles_text(()), "")

    def test_each_rule_has_a_line_and_each_declaration_one_end(self):
        rules = parse_styles("p\n{\nmargin:\n1\n2;\n\ncolor:red\n}\n@width (max 3)\n{ q,\nb { width: 1 }\ni { } }")
        text = styles_text(rules)
        self.assertEqual(len(text.split("\n")), 4)
        self.assertTrue(text.endswith("}\n"))
        for rule in rules:
            self.assertNotIn("\n", rule_text(rule))
            self.assertEqual(rule_text(rule).count(";"), len(rule.declarations))

    def test_texts_read_back(self):
        chance = random.Random(7)
        selectors = ("p", "#a.b", "p > b + i", "*", '[t="{,}"]', ":empty, u")
        declarations = ("color: red", "margin: 1 auto", "padding: 5pc 0 1", "--a: b  c", "top: use(--a) !important", "left: -5pc",
                        "z-index: -1", "display: inherit", "max-width: auto", "--b: 1!important", "width: 007")
        conditions = ("", "@width (min 3)", "@width (max 9)", "@width (min 0) and (max 99)")
        for _ in range(300):
            text = ""
            for _ in range(chance.randrange(4)):
                inner = ";".join(chance.choice(declarations) for _ in range(chance.randrange(4)))
                rule = chance.choice(selectors) + "{" + inner + "}"
                condition = chance.choice(conditions)
                text += condition + "{" + rule + "}" if condition else rule
            rules = parse_styles(text)
            again = parse_styles(styles_text(rules))
            self.assertEqual([rule.shown() for rule in again], [rule.shown() for rule in rules])
            self.assertEqual(styles_text(again), styles_text(rules))
            for rule in rules:
                self.assertEqual([row.shown() for row in parse_styles(rule_text(rule))], [rule.shown()])


if __name__ == "__main__":
    unittest.main()
