"""Values of scripts and their texts [13]."""

import unittest

from pagestack.events import Event
from pagestack.markup import parse_markup
from pagestack.scriptvalues import Function, PageFunction, ScriptList, ScriptTable, is_true, kind_of, same, told_text

NODE = parse_markup("<p>a</p>").nodes[1]
EVENT = Event("click", NODE)
FUNCTION = Function(1, ("a",), (), None)
PAGE_FUNCTION = PageFunction("find", 1, 1)


def lists(many, inner):
    """Return a value within so many lists."""
    for _ in range(many):
        inner = ScriptList(0, [inner])
    return inner


class Values(unittest.TestCase):
    def test_fields(self):
        function = Function(3, ["a", "b"], (("break",),), None)
        self.assertEqual((function.number, function.names), (3, ("a", "b")))
        rows = [1]
        found = ScriptList(4, rows)
        self.assertEqual((found.number, found.rows), (4, rows))
        table = ScriptTable(5, {"a": 1})
        self.assertEqual((table.number, table.rows), (5, {"a": 1}))
        self.assertEqual((PAGE_FUNCTION.name, PAGE_FUNCTION.least, PAGE_FUNCTION.most), ("find", 1, 1))

    def test_kinds(self):
        for value, wanted in ((None, "null"), (True, "truth"), (False, "truth"), (0, "number"), ("", "text"),
                              (ScriptList(1, []), "list"), (ScriptTable(1, {}), "table"), (NODE, "element"),
                              (FUNCTION, "function"), (PAGE_FUNCTION, "function"), (EVENT, "thing")):
            self.assertEqual(kind_of(value), wanted)

    def test_what_counts_as_true(self):
        for value in (None, False, 0, "", ScriptList(1, [])):
            self.assertIs(is_true(value), False)
        for value in (True, 1, -1, "0", " ", ScriptList(1, [None]), ScriptTable(1, {}), NODE, FUNCTION, PAGE_FUNCTION, EVENT):
            self.assertIs(is_true(value), True)

    def test_what_is_the_same(self):
        values = [None, True, False, 0, 1, "", "1", "true", ScriptList(1, []), ScriptList(1, []), ScriptTable(1, {}),
                  ScriptTable(1, {}), NODE, FUNCTION, PAGE_FUNCTION, EVENT]
        for place, one in enumerate(values):
            for at, other in enumerate(values):
                self.assertIs(same(one, other), place == at)
        self.assertIs(same("a" + "b", "ab"), True)

    def test_texts(self):
        table = ScriptTable(1, {"b": ScriptList(2, []), "a": "x y", "A": None})
        for value, wanted in ((None, "null"), (True, "true"), (False, "false"), (-12, "-12"), ("a\n", "a\n"), (NODE, "<p>"),
                              (FUNCTION, "function"), (PAGE_FUNCTION, "function"), (EVENT, "thing"), (table, "{A: null, a: x y, b: []}"),
                              (ScriptList(1, []), "[]"), (ScriptTable(1, {}), "{}"),
                              (ScriptList(1, [1, "a", table, EVENT]), "[1, a, {A: null, a: x y, b: []}, thing]")):
            self.assertEqual(told_text(value), wanted)

    def test_what_is_more_than_five_deep(self):
        for value, shown in ((1, "1"), ("a", "a"), (None, "null"), (True, "true"), (NODE, "<p>"), (FUNCTION, "function")):
            self.assertEqual(told_text(lists(6, value)), "[[[[[[" + shown + "]]]]]]")
        for value, shown in ((ScriptList(1, []), "[]"), (ScriptTable(1, {"a": 1}), "{a: 1}"), (EVENT, "thing")):
            self.assertEqual(told_text(lists(5, value)), "[[[[[" + shown + "]]]]]")
            self.assertEqual(told_text(lists(6, value)), "[[[[[[..]]]]]]")
        deep = 1
        for _ in range(7):
            deep = ScriptTable(1, {"a": deep})
        self.assertEqual(told_text(deep), "{a: " * 6 + ".." + "}" * 6)

    def test_a_list_within_itself(self):
        one = ScriptList(1, [1])
        one.rows.append(one)
        self.assertEqual(told_text(one), "[1, " * 6 + ".." + "]" * 6)
        many = ScriptList(1, [])
        many.rows.extend([many] * 10)
        self.assertTrue(told_text(many).startswith("[[[[[[" + ", ".join([".."] * 10) + "], ["))
        self.assertLess(len(told_text(many)), 2000)

    def test_parts_past_300(self):
        self.assertEqual(told_text(ScriptList(1, [7] * 299)), "[" + ", ".join(["7"] * 299) + "]")
        self.assertEqual(told_text(ScriptList(1, [7] * 302)), "[" + ", ".join(["7"] * 299 + [".."] * 3) + "]")
        halves = ScriptList(1, [ScriptList(2, [1] * 200), ScriptList(3, [2] * 200), "x", ScriptList(4, [3])])
        wanted = "[[" + ", ".join(["1"] * 200) + "], [" + ", ".join(["2"] * 97 + [".."] * 103) + "], .., ..]"
        self.assertEqual(told_text(halves), wanted)

    def test_each_text_counts_its_own_parts(self):
        value = ScriptList(1, [7] * 299)
        self.assertEqual(told_text(value), told_text(value))


if __name__ == "__main__":
    unittest.main()
