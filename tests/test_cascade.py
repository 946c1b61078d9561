"""Values that win [6]."""

import unittest

from pagestack.cascade import adjusted, computed, inline_declarations, own_styles, ranked, styles_of, with_names
from pagestack.markup import parse_markup
from pagestack.nodes import Document
from pagestack.styles import parse_styles
from pagestack.values import all_names, initial

BLOCKS = ("html", "body", "div", "p", "ul", "ol", "li", "h1", "h2", "section", "form", "hr", "pre", "main")
NOT_SHOWN = ("head", "style", "script", "title", "meta", "link")


def values(markup, styles="", name="x", width=40):
    """Return the values of the element with an id."""
    document = parse_markup(markup)
    return styles_of(document, parse_styles(styles), width)[document.by_id(name).number]


def colour(markup, styles):
    """Return the colour of the element with the id x."""
    return values(markup, styles)["color"]


class Browser(unittest.TestCase):
    def test_what_the_browser_tells_of_each_tag(self):
        one = ("cells", 1)
        both = {"margin-top": one, "margin-bottom": one}
        more = {"p": both, "ul": {**both, "padding-left": ("cells", 2)}, "ol": {**both, "padding-left": ("cells", 2)},
                "h1": {**both, "text-transform": "upper"}, "h2": both, "pre": {"white-space": "pre"},
                "hr": {"height": one, "background": "grey"}}
        document = Document()
        for tag in BLOCKS:
            self.assertEqual(own_styles(document.make(tag)), {"display": "block", **more.get(tag, {})}, tag)
        for tag in NOT_SHOWN:
            self.assertEqual(own_styles(document.make(tag)), {"display": "none"})
        for tag in ("a", "b", "span", "img", "br", "input", "button", "h3", "textarea"):
            self.assertEqual(own_styles(document.make(tag)), {})

    def test_what_it_tells_counts_if_nobody_tells_more(self):
        for tag in BLOCKS + NOT_SHOWN + ("b", "img"):
            if tag != "html":
                document = parse_markup("<body></body>" if tag == "body" else f"<{tag}>" + (
                    f"</{tag}>" if tag in ("script", "style") else ""))
                found = styles_of(document, (), 40)[1]
                own = own_styles(document.node_of(1))
                for name in all_names():
                    self.assertEqual(found[name], own.get(name, initial(name)), f"{tag} {name}")
        self.assertEqual(values('<p id="x">', "* { margin-top: 3; display: flex }")["margin-top"], ("cells", 3))
        self.assertEqual(values('<p id="x">', "p { display: flex }")["display"], "flex")


class FirstValues(unittest.TestCase):
    def test_of_the_root(self):
        document = parse_markup("")
        found = styles_of(document, (), 40)
        wanted = {name: initial(name) for name in all_names()}
        wanted["display"] = "block"
        wanted["names"] = {}
        self.assertEqual(found, {0: wanted})

    def test_inherit_at_the_root(self):
        rules = parse_styles("html { " + " ".join(f"{name}: inherit;" for name in all_names()) + " }")
        found = computed(parse_markup("").root, {}, rules, 40)
        for name in all_names():
            self.assertEqual(found[name], initial(name), name)

    def test_texts_have_no_values(self):
        self.assertEqual(list(styles_of(parse_markup("a<b>c</b>"), (), 40)), [0, 2])


class Winning(unittest.TestCase):
    def test_the_later_rule_and_the_later_declaration(self):
        self.assertEqual(colour('<p id="x">', "p { color: red } p { color: blue }"), "blue")
        self.assertEqual(colour('<p id="x">', "p { color: red; color: blue }"), "blue")
        self.assertEqual(values('<p id="x">', "p { margin-top: 5; margin: 2 }")["margin-top"], ("cells", 2))
        self.assertEqual(values('<p id="x">', "p { margin: 2; margin-top: 5 }")["margin-top"], ("cells", 5))

    def test_the_greatest_weight(self):
        rows = (("p", "*"), (".a", "html p"), ("#x", ".a.a.a:empty[id]"), ("html p", "p"), ("[id]", "p"), (".a", "html > p"))
        for strong, weak in rows:
            self.assertEqual(colour('<p id="x" class="a">', f"{strong} {{ color: red }} {weak} {{ color: blue }}"), "red")
            self.assertEqual(colour('<p id="x" class="a">', f"{weak} {{ color: blue }} {strong} {{ color: red }}"), "red")
        many = ".a" * 20
        self.assertEqual(colour('<p id="x" class="a">', f"#x {{ color: red }} {many} {{ color: blue }}"), "red")

    def test_the_greatest_weight_of_the_selectors_that_fit(self):
        self.assertEqual(colour('<p id="x" class="a">', "p, .a { color: red } p { color: blue }"), "red")
        self.assertEqual(colour('<p id="x" class="a">', "p, #y { color: red } p { color: blue }"), "blue")
        self.assertEqual(colour('<p id="x" class="a">', "#y { color: red }"), "black")

    def test_importance(self):
        self.assertEqual(colour('<p id="x">', "* { color: red !important } #x { color: blue }"), "red")
        self.assertEqual(colour('<p id="x">', "p { color: red !important; color: blue }"), "red")
        self.assertEqual(colour('<p id="x">', "#x { color: red !important } * { color: blue !important }"), "red")
        self.assertEqual(colour('<p id="x">', "* { color: red !important } * { color: blue !important }"), "blue")

    def test_the_own_style(self):
        self.assertEqual(colour('<p id="x" style="color: red">', "#x { color: blue }"), "red")
        self.assertEqual(colour('<p id="x" style="color: red">', "* { color: blue !important }"), "blue")
        self.assertEqual(colour('<p id="x" style="color: red !important">', "#x { color: blue !important }"), "red")
        self.assertEqual(colour('<p id="x" style="color: red; color: green">', ""), "green")
        self.assertEqual(values('<p id="x" style="margin: 3">')["margin-top"], ("cells", 3))

    def test_an_own_style_that_is_none(self):
        for text in ("color: pink", "color: green; x", "color", "color: green; width: -1", "{color: green}", "color: green /* x"):
            self.assertEqual(colour(f'<p id="x" style="{text}">', "p { color: blue }"), "blue", text)
            self.assertEqual(inline_declarations(parse_markup(f'<p style="{text}">').node_of(1)), ())
        node = parse_markup('<p style=" color : green ; --a: b">').node_of(1)
        self.assertEqual([row.shown() for row in inline_declarations(node)], [("color", "green", False), ("--a", "b", False)])
        self.assertEqual(inline_declarations(parse_markup("<p style>").node_of(1)), ())
        self.assertEqual(inline_declarations(parse_markup("<p>").node_of(1)), ())

    def test_rules_of_other_windows_do_not_count(self):
        styles = "p { color: red } @width (min 20) and (max 30) { p { color: blue } } @width (min 31) { #x { color: green } }"
        wanted = {19: "red", 20: "blue", 30: "blue", 31: "green"}
        for width, word in wanted.items():
            self.assertEqual(values('<p id="x">', styles, "x", width)["color"], word)

    def test_the_order_of_declarations(self):
        node = parse_markup('<p id="x" class="a" style="top: 1; top: 2 !important">').node_of(1)
        rules = parse_styles(".a { left: 1; left: 2 } #x { left: 3 !important; left: 4 } p { left: 5 } b { left: 6 }"
                             "* { left: 7 !important } p { left: 8; left: 9 !important } @width (max 3) { p { left: 10 } }")
        rows = [(row.name, row.value[1]) for row in ranked(node, rules, 40)]
        self.assertEqual(rows, [("left", 5), ("left", 8), ("left", 1), ("left", 2), ("left", 4), ("top", 1),
                                ("left", 7), ("left", 9), ("left", 3), ("top", 2)])


class HandedDown(unittest.TestCase):
    told = {"color": "red", "text-align": "right", "white-space": "pre", "visibility": "hidden", "text-transform": "lower"}
    others = {"background": "red", "border": "1", "display": "flex", "grow": "2", "height": "3", "justify": "end", "left": "1",
              "margin-bottom": "4", "margin-left": "4", "margin-right": "4", "margin-top": "4", "max-width": "9", "min-width": "1",
              "order": "2", "overflow": "hidden", "padding-bottom": "1", "padding-left": "1", "padding-right": "1",
              "padding-top": "1", "position": "relative", "top": "1", "width": "9", "z-index": "5"}

    def test_what_is_handed_down_and_what_is_not(self):
        self.assertEqual(tuple(sorted({**self.told, **self.others})), all_names())
        styles = "div { " + " ".join(f"{name}: {text};" for name, text in {**self.told, **self.others}.items()) + " }"
        markup = '<div id="y"><b><i id="x">'
        above, found = values(markup, styles, "y"), values(markup, styles)
        for name, word in self.told.items():
            self.assertEqual((above[name], found[name]), (word, word))
        for name in self.others:
            self.assertNotEqual(above[name], initial(name))
            self.assertEqual(found[name], initial(name), name)

    def test_inherit_takes_any_value_of_the_element_above(self):
        everything = {**self.told, **self.others}
        styles = "div { " + " ".join(f"{name}: {text};" for name, text in everything.items()) + " } "
        styles += "b { " + " ".join(f"{name}: inherit;" for name in everything) + " }"
        above, found = values('<div id="y"><b id="x">', styles, "y"), values('<div id="y"><b id="x">', styles)
        self.assertEqual(found, above)
        self.assertEqual(values('<div><i><b id="x">', styles)["width"], "auto")

    def test_the_browser_is_above_what_is_handed_down(self):
        self.assertEqual(values('<h1 id="x">', "html { text-transform: lower }")["text-transform"], "upper")
        self.assertEqual(values('<h1><b id="x">', "html { text-transform: lower }")["text-transform"], "upper")
        self.assertEqual(values('<pre><b id="x">', "")["white-space"], "pre")


class Names(unittest.TestCase):
    def test_a_name_told_further_above_and_anew(self):
        styles = "html { --a: red; --b: blue } div { --a: green } #x { color: use(--a); background: use(--b) }"
        found = values('<div><p><b id="x">', styles)
        self.assertEqual((found["color"], found["background"]), ("green", "blue"))
        self.assertEqual(found["names"], {"--a": "green", "--b": "blue"})
        self.assertEqual(values('<p><b id="x">', styles)["color"], "red")

    def test_a_name_told_by_the_element_itself_wherever(self):
        self.assertEqual(colour('<p id="x">', "p { color: use(--a) } * { --a: red }"), "red")
        self.assertEqual(colour('<p id="x" style="--a: blue">', "p { color: use(--a); --a: red }"), "blue")
        self.assertEqual(colour('<p id="x" style="--a: blue">', "p { color: use(--a); --a: red !important }"), "red")

    def test_a_name_below_is_not_known_above(self):
        self.assertEqual(colour('<p id="x"><b style="--a: red">', "p { color: use(--a) }"), "black")
        self.assertEqual(colour('<b style="--a: red"></b><p id="x">', "p { color: use(--a) }"), "black")

    def test_unknown_and_unfit_ones_leave_the_property_untold(self):
        for told in ("", "--a: pink; ", "--a: 1 2; "):
            styles = "html { color: red } div { color: green; width: 5 } p { color: blue } #x { %scolor: use(--a) }" % told
            self.assertEqual(values('<div><p id="x">', styles)["color"], "green")
            styles = "#x { %stext-transform: use(--a); display: use(--a); margin-top: use(--a) }" % told
            found = values('<h1 id="x">', styles)
            self.assertEqual((found["text-transform"], found["display"], found["margin-top"]), ("none", "inline", ("cells", 0)))
            self.assertEqual(found["margin-bottom"], ("cells", 1))

    def test_one_that_fits_one_property_alone(self):
        found = values('<p id="x">', "p { --a: 5; width: use(--a); color: use(--a); z-index: use(--a); left: use(--a) }")
        self.assertEqual((found["width"], found["color"], found["z-index"], found["left"]), (("cells", 5), "black", 5, ("cells", 5)))

    def test_a_use_that_loses_does_not_count(self):
        self.assertEqual(colour('<p id="x">', "p { color: use(--a) } p { color: red }"), "red")

    def test_a_text_inherit(self):
        found = values('<div><b id="x">', "div { width: 7; --a: inherit } b { width: use(--a) }")
        self.assertEqual(found["width"], ("cells", 7))

    def test_putting_names_in(self):
        names = {"--a": "red", "--b": "7"}
        self.assertEqual(with_names(("use", "--a"), "color", names), "red")
        self.assertEqual(with_names(("use", "--b"), "width", names), ("cells", 7))
        self.assertEqual(with_names(("use", "--b"), "order", names), 7)
        self.assertIsNone(with_names(("use", "--b"), "color", names))
        self.assertIsNone(with_names(("use", "--c"), "color", names))
        self.assertIsNone(with_names(("use", "--c"), "color", {}))
        for value in ("red", 5, ("cells", 3), ("share", 50), "auto", "inherit"):
            self.assertEqual(with_names(value, "width", names), value)


class Adjusted(unittest.TestCase):
    def test_what_is_absolute_and_inline_is_a_block(self):
        wanted = {"inline": "block", "block": "block", "flex": "flex", "none": "none"}
        for told, used in wanted.items():
            self.assertEqual(values('<b id="x">', f"b {{ position: absolute; display: {told} }}")["display"], used)
            for position in ("static", "relative"):
                self.assertEqual(values('<b id="x">', f"b {{ position: {position}; display: {told} }}")["display"], told)
        self.assertEqual(values('<b id="x">', "b { position: absolute }")["display"], "block")

    def test_what_was_found_stays_as_it_was(self):
        found = {"position": "absolute", "display": "inline", "color": "red"}
        self.assertEqual(adjusted(found), {"position": "absolute", "display": "block", "color": "red"})
        self.assertEqual(found["display"], "inline")


class NothingChanges(unittest.TestCase):
    def test_values_above_and_trees_stay(self):
        document = parse_markup('<p style="--a: red; color: use(--a)"><b style="--a: blue">')
        shown = document.root.shown()
        above = computed(document.node_of(1), {}, (), 40)
        before = {**above, "names": dict(above["names"])}
        below = computed(document.node_of(2), above, (), 40)
        self.assertEqual(below["names"], {"--a": "blue"})
        self.assertEqual(above, before)
        self.assertEqual(document.root.shown(), shown)


if __name__ == "__main__":
    unittest.main()
