"""Templates [21] and the promise of [1]: no value that is filled in becomes markup."""

import random
import unittest

from pagestack.errors import TemplateError
from pagestack.markup import parse_markup
from pagestack.templates import fill_template, is_yes, names_asked, parse_template, template_text, text_of_value

NASTY = ("<b>", "</p>", "<!--", "-->", '"', '" onclick="', "&", "&lt;", "&amp;", "lt;", ";", "</script>", "<script>", "{x}", "{{", "}", ">", "'", "a b", "\n",
         "&quot", "<br", "=", "--", "{end}")


def filled(text, **values):
    """Return the markup of a template with values."""
    return fill_template(parse_template(text), values)


def shown(text, **values):
    """Return the children of the root of what a template is filled into."""
    return parse_markup(filled(text, **values)).root.shown()[2]


class Wrong(unittest.TestCase):
    def refuse(self, *texts):
        for text in texts:
            with self.assertRaises(TemplateError, msg=text):
                parse_template(text)


class Parts(Wrong):
    def test_parts(self):
        for text, parts in (("", ()), ("a", ("a",)), ("a{b}c", ("a", ("value", "b"), "c")), ("{a.b.c1}", (("value", "a.b.c1"),)),
                            ("{if a}x{end}", (("if", "a", ("x",), ()),)), ("{if a.b}{else}y{end}", (("if", "a.b", (), ("y",)),)),
                            ("{if a}{else}{end}", (("if", "a", (), ()),)), ("{each a.b as c}{c}{end}", (("each", "a.b", "c", (("value", "c"),)),)),
                            ("{a}{b}", (("value", "a"), ("value", "b"))), ("{0}", (("value", "0"),)), ("{if a}{if b}x{end}{else}y{end}z",
                             (("if", "a", (("if", "b", ("x",), ()),), ("y",)), "z"))):
            self.assertEqual(parse_template(text), parts, text)

    def test_two_braces(self):
        for text, parts in (("{{", ("{",)), ("a{{b}", ("a{b}",)), ("{{{a}}}", ("{", ("value", "a"), "}}")), ("{{{{", ("{{",)), ("}", ("}",)),
                            ("{a}{{", (("value", "a"), "{")), ("{{if a}", ("{if a}",))):
            self.assertEqual(parse_template(text), parts, text)
        self.assertEqual(filled("<style>p {{ color: red }</style>{a}", a="1"), "<style>p { color: red }</style>1")

    def test_signs_that_do_not_fit(self):
        self.refuse("{", "a{", "{a", "{}", "{ }", "{ a}", "{a }", "{a  b}", "{a b}", "{A}", "{a-b}", "{a_b}", "{a.}", "{.a}", "{a..b}", "{a{{b}", "{{{", "{\n}",
                    "{a!}", "{a.B}", "{\u00e9}", "{a\n}")

    def test_ifs_and_eachs_that_do_not_fit(self):
        self.refuse("{end}", "{else}", "a{end}", "{if a}", "{if a}x{else}", "{if a}{end}{end}", "{if a}{else}{else}{end}", "{each a as b}", "{each a as b}{else}{end}",
                    "{if}x{end}", "{if  a}{end}", "{if a b}{end}", "{if a.}{end}", "{each a}{end}", "{each a as}{end}", "{each a b c}{end}", "{each as b}{end}",
                    "{each a as b c}{end}", "{each a  as b}{end}", "{each a as b.c}{end}", "{each a as B}{end}", "{each a. as b}{end}", "{else a}", "{if a}{end b}",
                    "{if a}{each b as c}{end}", "{each}{end}")

    def test_names_that_are_words(self):
        for word in ("if", "each", "else", "end", "as"):
            self.refuse("{" + word + "}", "{a." + word + "}", "{" + word + ".a}", "{if " + word + "}{end}", "{each " + word + " as a}{end}", "{each a as " + word + "}{end}")
        for word in ("ifs", "endif", "a", "as1", "0", "end2"):
            self.assertEqual(parse_template("{" + word + "}"), (("value", word),))

    def test_twenty_and_twenty_one_within_each_other(self):
        for begin in ("{if a}", "{each a as a}"):
            self.assertEqual(filled(begin * 20 + "x" + "{end}" * 20, a=()), "")
            self.refuse(begin * 21 + "x" + "{end}" * 21)
        self.refuse("{if a}{else}" * 21 + "{end}" * 21)
        self.assertEqual(filled("{if a}{else}" * 20 + "x" + "{end}" * 20 + "{if a}y{end}" * 30, a=0), "x")


class Places(Wrong):
    def test_where_values_may_stand(self):
        for text in ("{x}", "<p>{x}</p>", '<a b="{x}">', '<a b="c{x}d" e="{x}">', "<br>{x}", "<script></script>{x}", "<style>a</style>{x}", "<!-- a -->{x}", "<!--<-->{x}",
                     '<script b="{x}"></script>', "</p>{x}", "<script-a>{x}", '<a b="<!--{x}">', '<a b=">{x}">', '<a b="<script>">{x}', "<!-- <script> -->{x}",
                     "<script><!--</script>{x}", "<script></style></script >x</script>{x}", "<style></script></style>{x}", "a > b {x}", "--> {x}", 'a="{x}"'):
            self.assertIn(("value", "x"), parse_template(text), text)

    def test_where_none_may_stand(self):
        places = ("<", "</", "<!", "<!-", "<!--", "<!-- --", "<p", "<p ", "</p", "</p ", "<p a", "<p a=", '<p a="b"', '<p a="b" ', "<p a='", "<script>", "<style>", "<script>a</script",
                  "<script></style>", '<script a="b">', "<script\n>", '<p "', '<p a ="b" "', '</p a="', "<script><!-- -->", '<p a="b">c<i d="e"')
        for place in places:
            self.refuse(place + "{x}", place + "{if x}a{end}", place + "{each x as y}a{end}", "{if x}" + place + "{end}", "{if x}{else}" + place + "{end}",
                        "{if x}" + place + "{else}{end}", "{each x as y}" + place + "{end}")

    def test_within_an_entity_none_may_stand(self):
        self.refuse("&{x};", "&l{x};", "a&lt{x}", "<p>&am{x}p;</p>", '<a b="&{x};">', "&{if x}lt;{end}", "{if x}&{end}lt;", "{each x as y}&q{end}")
        for text in ("&lt;{x}", "&amp;lt{x}", '<a b="&quot;{x}">'):
            self.assertIn(("value", "x"), parse_template(text))

    def test_both_ways_of_an_if_lead_to_the_same_place(self):
        self.refuse('{if x}<a b="{end}', '{if x}<a b="{else}c{end}', '<a b="{if x}">{else}c{end}', '<a b="{if x}">{end}', '{if x}<a b="{else}<script b="{end}',
                    '<a b="{if x}{else}">{end}', '<script a="{if x}">{end}', '<a b="{if x}c"{end}>', '<a b="c"{if x} d="e"{end}>')
        for text, markup in (('{if x}<a b="{else}<i b="{end}c">', ('<a b="c">', '<i b="c">')), ('<a b="{if x}">c{else}d">{end}e', ('<a b="">ce', '<a b="d">e')),
                             ('<a b="{if x}c" d="{end}e">', ('<a b="c" d="e">', '<a b="e">')), ("{if x}<p>{end}a", ("<p>a", "a")),
                             ('{if x}<script a="{else}<style a="b"></style><script b="{end}"></script>', ('<script a=""></script>', '<style a="b"></style><script b=""></script>')),
                             ("{if x}<script>a</script>{else}<!-- b -->{end}", ("<script>a</script>", "<!-- b -->"))):
            self.assertEqual((filled(text, x=1), filled(text, x=0)), markup)

    def test_an_each_leads_to_where_it_begins(self):
        self.refuse('{each x as y}<a b="{end}', '<a b="{each x as y}">{end}', '<a b="{each x as y}c"{end}>')
        self.assertEqual(filled('<a b="{each x as y}{y} {end}">', x=(1, 2)), '<a b="1 2 ">')
        self.assertEqual(filled('{each x as y}<a b="{y}">{end}', x=(1, 2)), '<a b="1"><a b="2">')


class Values(unittest.TestCase):
    def test_texts_of_values(self):
        for value, text in ((None, ""), (True, "yes"), (False, "no"), (0, "0"), (-12, "-12"), (7, "7"), ("", ""), ("a<", "a<")):
            self.assertEqual(text_of_value(value), text)
        for value in ((), ("a",), {}, {"a": 1}):
            with self.assertRaises(TemplateError):
                text_of_value(value)

    def test_what_an_if_takes_as_true(self):
        for value in (None, False, 0, "", (), {}):
            self.assertIs(is_yes(value), False)
            self.assertEqual(filled("{if a}x{else}y{end}", a=value), "y")
        for value in (True, 1, -1, "0", " ", ("",), (None,), {"a": None}):
            self.assertIs(is_yes(value), True)
            self.assertEqual(filled("{if a}x{else}y{end}", a=value), "x")

    def test_filling(self):
        values = {"name": "A & B", "rows": ({"n": 1, "last": False}, {"n": -2, "last": True}), "none": None, "deep": {"er": {"est": "d"}}}
        for text, markup in (("{name}", "A &amp; B"), ('<a b="{name}">', '<a b="A &amp; B">'), ("{deep.er.est}", "d"), ("[{none}]", "[]"),
                             ("{each rows as row}{row.n}{if row.last}.{else},{end}{end}", "1,-2."), ("{each rows as row}{name}{end}", "A &amp; BA &amp; B"),
                             ("{if none}{x}{else}{{{end}", "{"), ("a{each rows as rows}{rows.n}{end}b{each rows as r}{r.last}{end}", "a1-2bnoyes")):
            self.assertEqual(fill_template(parse_template(text), values), markup)
        self.assertEqual(sorted(values), ["deep", "name", "none", "rows"])

    def test_eachs(self):
        self.assertEqual(filled("{each a as b}{each b as c}{c}{end};{end}", a=((1, 2), (), (3,))), "12;;3;")
        self.assertEqual(filled("{each a as b}x{end}", a=()), "")
        self.assertEqual(filled("{each a as x}{x}{end}{x}", a=(1, 2), x=9), "129")
        self.assertEqual(filled("{each a as a}{each a as a}{a}{end}{end}", a=((1,), (2,))), "12")

    def test_values_that_lack_or_do_not_fit(self):
        for text, values in (("{a}", {}), ("{a}", {"b": 1}), ("{a.b}", {"a": {}}), ("{a.b}", {"a": 1}), ("{a.b}", {"a": "b"}), ("{a.b}", {"a": None}), ("{a.0}", {"a": (1,)}),
                             ("{a.b.c}", {"a": {"b": ()}}), ("{a}", {"a": ()}), ("{a}", {"a": {"b": 1}}), ("{if a}{end}", {}), ("{if a.b}{end}", {"a": (1,)}),
                             ("{each a as b}{end}", {}), ("{each a as b}{end}", {"a": 1}), ("{each a as b}{end}", {"a": "xy"}), ("{each a as b}{end}", {"a": {"b": 1}}),
                             ("{each a as b}{end}", {"a": None}), ("{each a as b}{b.c}{end}", {"a": ({"c": 1}, {})}), ("{each a as b}x{end}{b}", {"a": (1,)})):
            with self.assertRaises(TemplateError, msg=text):
                fill_template(parse_template(text), values)

    def test_what_is_too_long(self):
        self.assertEqual(len(filled("{a}", a="x" * 20000)), 20000)
        self.assertEqual(len(filled("a{a}", a="<" * 4999)), 1 + 4 * 4999)
        self.assertEqual(len(fill_template(("x" * 20000,), {})), 20000)
        for text, values in (("{a}", {"a": "x" * 20001}), ("{a}", {"a": "<" * 5001}), ("a{a}", {"a": "x" * 20000}), ("{each a as b}{b}{end}x", {"a": ("x" * 1000,) * 20}),
                             ("x" * 20001, {})):
            with self.assertRaises(TemplateError):
                fill_template(parse_template(text), values)


class Promise(unittest.TestCase):
    def test_in_a_text(self):
        for value in NASTY:
            self.assertEqual(shown("<i>a{v}b</i>", v=value), (("i", (), ("a" + value + "b",)),))

    def test_in_an_attribute(self):
        for value in NASTY:
            self.assertEqual(shown('<i c="a{v}" d="{v}">x</i>', v=value), (("i", (("c", "a" + value), ("d", value)), ("x",)),))
            self.assertEqual(shown('<script c="{v}">x</script>', v=value), (("script", (("c", value),), ("x",)),))

    def test_in_rows(self):
        text = '<ul>{each rows as row}<li a="{row.a}">{if row.b}<b>{row.b}</b>{else}-{end}</li>{end}</ul>'
        dice = random.Random(8)
        for _ in range(200):
            rows = tuple({"a": "".join(dice.choices(NASTY, k=3)), "b": "".join(dice.choices(NASTY + ("",), k=dice.randrange(3)))} for _ in range(3))
            wanted = tuple(("li", (("a", row["a"]),), (("b", (), (row["b"],)),) if row["b"] else ("-",)) for row in rows)
            self.assertEqual(shown(text, rows=rows), (("ul", (), wanted),))

    def test_side_by_side(self):
        for one in NASTY:
            for other in NASTY:
                self.assertEqual(shown("<i>{a}{b}</i>", a=one, b=other), (("i", (), (one + other,)),))

    def test_whatever_template_is_taken(self):
        dice = random.Random(9)
        pieces = ("{v}", "<i>", "</i>", '<i a="', '">', '"', "<", ">", "<!--", "-->", "<script>", "</script>", "&", "&lt;", "lt", ";", "x", "{if y}", "{else}", "{end}", "{{", " ")
        taken = 0
        for _ in range(40000):
            text = "".join(dice.choices(pieces, k=dice.randrange(2, 9)))
            try:
                parts = parse_template(text)
            except TemplateError:
                continue
            found = []
            for value in ("zqz", '<b>"&lt;--></script>', "lt"):
                markup = fill_template(parts, {"v": value, "y": 1})
                try:
                    found.append(str(parse_markup(markup).root.shown()).replace(repr(value)[1:-1], "zqz"))
                except ValueError:
                    found.append(None)
            if "lt" not in text:
                taken += 1 if "zqz" in (found[0] or "") else 0
                self.assertEqual(found[0], found[1], text)
            self.assertEqual(found[0] is None, found[2] is None, text)
        self.assertGreater(taken, 500)


class Texts(unittest.TestCase):
    def test_texts_read_back(self):
        for text in ("", "a", "{{", "{a}", "{{{a.b}{{", "{if a}x{end}", "{if a}x{else}y{end}", "{if a}{else}y{end}", "{if a}{end}", "{each a.b as c}{c}{end}",
                     '<p b="{a}">{if b}{each c as d}<br>{d.e}{end}{else}{{{f}{end}</p>'):
            self.assertEqual(template_text(parse_template(text)), text)

    def test_an_else_without_anything_behind_it_is_left_out(self):
        parts = parse_template("{if a}x{else}{end}")
        self.assertEqual(template_text(parts), "{if a}x{end}")
        self.assertEqual(parse_template(template_text(parts)), parts)

    def test_names_asked(self):
        for text, names in (("", ()), ("a{{b}", ()), ("{b}{a.c}{b.d}", ("a", "b")), ("{if c}{a}{else}{b}{end}", ("a", "b", "c")), ("{each rows as row}{row.a}{x}{end}", ("rows", "x")),
                            ("{each a as a}{a}{end}", ("a",)), ("{each a as b}{b}{end}{b}", ("a", "b")), ("{each a as b}{each b.c as d}{d}{if e}{end}{end}{end}{d}", ("a", "d", "e"))):
            self.assertEqual(names_asked(parse_template(text)), names, text)


if __name__ == "__main__":
    unittest.main()
