"""Scripts that are refused, and what the others are [12]."""

import unittest

from pagestack.errors import ScriptError
from pagestack.scriptparse import ScriptReader, is_statement, parse_script

WORDS = "let if else while for in return break throw try catch function null true false".split()
A, B, C = ("name", "a"), ("name", "b"), ("name", "c")
ONE, TWO = ("value", 1), ("value", 2)


def expression(text):
    """Return the expression that a text is."""
    statements = parse_script(text + ";")
    assert len(statements) == 1 and statements[0][0] == "do"
    return statements[0][1]


class Reader(unittest.TestCase):
    def test_here_and_take(self):
        reader = ScriptReader("let a = \"t\" 5")
        self.assertEqual((reader.place, reader.here()), (0, "let"))
        reader.take("let")
        self.assertEqual((reader.place, reader.here()), (1, "name"))
        self.assertEqual(reader.take("name"), "a")
        with self.assertRaises(ScriptError):
            reader.take("name")
        self.assertEqual(reader.place, 2)
        reader.take("=")
        self.assertEqual((reader.take("text"), reader.take("number")), ("t", 5))
        self.assertEqual(reader.here(), "end")
        reader.take("end")
        self.assertEqual(reader.here(), "end")

    def test_no_tokens(self):
        with self.assertRaises(ScriptError):
            ScriptReader("@")


class Statements(unittest.TestCase):
    def test_each_statement(self):
        for text, wanted in (
            ("let a = 1;", ("let", "a", ONE)),
            ("a = 1;", ("set", A, ONE)),
            ("a[1] = b;", ("set", ("item", A, ONE), B)),
            ("a.b = c;", ("set", ("field", A, "b"), C)),
            ("a(b)[1].c = 2;", ("set", ("field", ("item", ("call", A, (B,)), ONE), "c"), TWO)),
            ("a;", ("do", A)),
            ("if (a) { b; }", ("if", A, (("do", B),), ())),
            ("if (a) { b; } else { c; }", ("if", A, (("do", B),), (("do", C),))),
            ("if (a) { } else if (b) { } else { c; }", ("if", A, (), (("if", B, (), (("do", C),)),))),
            ("while (a) { break; }", ("while", A, (("break",),))),
            ("for (a in b) { c; }", ("for", "a", B, (("do", C),))),
            ("return a;", ("return", A)),
            ("return;", ("return", ("value", None))),
            ("throw a;", ("throw", A)),
            ("try { a; } catch (b) { c; }", ("try", (("do", A),), "b", (("do", C),))),
            ("function a(b, c) { return b; }", ("function", "a", ("b", "c"), (("return", B),))),
            ("function a() { }", ("function", "a", (), ())),
        ):
            self.assertEqual(parse_script(text), (wanted,), text)
            self.assertIs(is_statement(text), True)

    def test_what_the_head_of_a_for_may_be(self):
        wanted = (("for", "a", B, ()),)
        self.assertIs(is_statement("for (a on b) { }"), False)
        for head in ("(a in b)", "(let a in b)", "(a of b)", "(let a of b)", "a in (b)"):
            self.assertEqual(parse_script("for " + head + " { }"), wanted, head)

    def test_several_statements(self):
        self.assertEqual(parse_script("a; let b = 1; { };"), (("do", A), ("let", "b", ONE), ("do", ("table", ()))))
        self.assertEqual(parse_script(""), ())
        self.assertEqual(parse_script(" // nothing\n"), ())

    def test_blanks_and_remarks_do_not_count(self):
        tight = 'let a=[1,{b:2}];if(a){b();}else{c=-1;}'
        loose = ' let\na = [ 1 , { b : 2 } ] ; // x\n if ( a ) { b ( ) ; }\n// y ; }\nelse { c = - 1 ; } '
        self.assertEqual(parse_script(tight), parse_script(loose))

    def test_texts_that_are_no_scripts(self):
        for text in (
            "a", "let a;", "let a = 1", "let = 1;", "let a 1;", "let 1 = 1;", "let a.b = 1;", "let a = ;", "= 1;", "a = ;", "1 = a;",
            "a() = 1;", '"t" = 1;', "[a] = 1;", "a + b = 1;", "-a = 1;", "a = b = c;", ";", "a;;", "if a { }", "if (a) b;",
            "if (a) { } else b;", "if () { }", "if (a) { } else { } else { }", "else { }", "while a { }", "while (a) b;", "while () { }",
            "for a in b { }", "for (a in) { }", "for (in b) { }", "for (a b) { }", "for (a in b) c;", "for (a.b in c) { }",
            "for (a = 1; b; c) { }", "return a", "return", "break", "break a;", "throw;", "throw a", "try { }", "try { } catch { }",
            "try a; catch (e) { }", "try { } catch (e) a;", "try { } catch e { }", "try { } catch (1) { }", "catch (e) { }",
            "function () { }", "function a { }", "function a(b c) { }", "function a(1) { }", "function a(b,) { }", "function a(,b) { }",
            "function a() b;", "{ a; }", "}", "if (a) {", "a(;", "a);", "(a;", "a];", "a b;", "a 1;", '"t" "u";',
        ):
            with self.assertRaises(ScriptError, msg=text):
                parse_script(text)
            self.assertIs(is_statement(text), False, text)

    def test_texts_without_tokens_are_no_scripts(self):
        for text in ("@", '"abc', "1234567890;", '"\\x";', "a & b;"):
            self.assertIs(is_statement(text), False, text)

    def test_each_word_as_a_name(self):
        for word in WORDS:
            for text in ("let {} = 1;", "{} = 1;", "function {}() {{ }}", "function f({}) {{ }}", "for ({} in b) {{ }}",
                         "try {{ }} catch ({}) {{ }}", "a.{};", "let t = {{{}: 1}};"):
                self.assertIs(is_statement(text.format(word)), False, text.format(word))

    def test_names_that_are_told_twice(self):
        for text in ("function f(a, a) { }", "function f(a, b, a) { }", "let f = function (a, a) { };", "let t = {a: 1, a: 2};",
                     "let t = {a: 1, b: 2, a: 1};", 'let t = {a: 1, "a": 2};'):
            self.assertIs(is_statement(text), False, text)
        for text in ("function f(a, b) { }", "let t = {a: {a: 1}, b: 2};", "function f(f) { }", "let a = 1; let a = 2;"):
            self.assertIs(is_statement(text), True, text)


class Expressions(unittest.TestCase):
    def test_values(self):
        for text, wanted in (("5", 5), ('"a\\n"', "a\n"), ("null", None), ("true", True), ("false", False)):
            found = expression(text)
            self.assertEqual(found, ("value", wanted))
            self.assertIs(type(found[1]), type(wanted))

    def test_lists_tables_and_functions(self):
        self.assertEqual(expression("[]"), ("list", ()))
        self.assertEqual(expression("[1, a, [2]]"), ("list", (ONE, A, ("list", (TWO,)))))
        self.assertEqual(expression("{}"), ("table", ()))
        self.assertEqual(expression('{a: 1, "b c": {d: a}}'), ("table", (("a", ONE), ("b c", ("table", (("d", A),))))))
        self.assertEqual(parse_script("a = function (b) { return b; };"), (("set", A, ("function", None, ("b",), (("return", B),))),))
        self.assertEqual(expression("a(function () { })"), ("call", A, (("function", None, (), ()),)))

    def test_suffixes(self):
        self.assertEqual(expression("a()"), ("call", A, ()))
        self.assertEqual(expression("a(1, b)"), ("call", A, (ONE, B)))
        self.assertEqual(expression("a[1]"), ("item", A, ONE))
        self.assertEqual(expression("a.b"), ("field", A, "b"))
        self.assertEqual(expression("a.b(1)[2].c"), ("field", ("item", ("call", ("field", A, "b"), (ONE,)), TWO), "c"))
        self.assertEqual(expression('"t"[1]'), ("item", ("value", "t"), ONE))
        self.assertEqual(expression("(a)(b)"), ("call", A, (B,)))

    def test_what_binds_closer(self):
        rows = ["||", "&&", "==", "<", "+", "*"]
        for place, loose in enumerate(rows):
            for close in rows[place + 1:]:
                self.assertEqual(expression(f"a {loose} b {close} c"), ("op", loose, A, ("op", close, B, C)))
                self.assertEqual(expression(f"a {close} b {loose} c"), ("op", loose, ("op", close, A, B), C))
                self.assertEqual(expression(f"(a {loose} b) {close} c"), ("op", close, ("op", loose, A, B), C))

    def test_all_levels_at_once(self):
        inner = ("op", "+", C, ("op", "*", ONE, TWO))
        wanted = ("op", "||", A, ("op", "&&", B, ("op", "!=", ("op", "<=", A, inner), B)))
        self.assertEqual(expression("a || b && a <= c + 1 * 2 != b"), wanted)

    def test_operations_of_one_level_go_from_the_left(self):
        for one, other in (("+", "-"), ("-", "+"), ("*", "/"), ("/", "*"), ("||", "||"), ("&&", "&&")):
            self.assertEqual(expression(f"a {one} b {other} c"), ("op", other, ("op", one, A, B), C))

    def test_what_stands_before(self):
        self.assertEqual(expression("!a"), ("not", A))
        self.assertEqual(expression("-a"), ("neg", A))
        self.assertEqual(expression("-5"), ("neg", ("value", 5)))
        self.assertEqual(expression("!-!a"), ("not", ("neg", ("not", A))))
        self.assertEqual(expression("-a.b"), ("neg", ("field", A, "b")))
        self.assertEqual(expression("-a * b"), ("op", "*", ("neg", A), B))
        self.assertEqual(expression("a - -b"), ("op", "-", A, ("neg", B)))
        self.assertEqual(expression("!a == b"), ("op", "==", ("not", A), B))

    def test_comparisons_do_not_follow_each_other(self):
        for one in ("==", "!="):
            for other in ("==", "!="):
                self.assertIs(is_statement(f"a {one} b {other} c;"), False)
        for one in ("<", "<=", ">", ">="):
            for other in ("<", "<=", ">", ">="):
                self.assertIs(is_statement(f"a {one} b {other} c;"), False)
        self.assertIs(is_statement("a == b < c == d;"), False)
        self.assertIs(is_statement("a < b + c < d;"), False)

    def test_comparisons_that_do_not_follow_each_other(self):
        for text in ("a < b == c < d;", "(a == b) == c;", "a == (b == c);", "a == b && c == d;", "a < b || b < c;", "a == b < c;"):
            self.assertIs(is_statement(text), True, text)

    def test_no_expressions(self):
        for text in ("a +", "+ a", "* a", "a ! b", "a !", "()", "(a", "a.", "a.1", 'a."b"', "a[", "a[]", "a[1, 2]", "a(1,)", "a(,1)", "a(1 2)",
                     "[1,]", "[,1]", "[1 2]", "{a}", "{a: }", "{1: 2}", "{a: 1,}", "{a = 1}", "{a: 1 b: 2}", "a ? b : c", "a && ", "a = b"):
            self.assertIs(is_statement("let x = " + text + ";"), False, text)


def nested(begin, middle, end, many):
    """Return a text with so many parts within each other."""
    return begin * many + middle + end * many


class Limits(unittest.TestCase):
    def test_open_parts_of_each_kind(self):
        for begin, middle, end, after in (
            ("(", "a", ")", ";"), ("[", "a", "]", ";"), ("{a: ", "a", "}", ";"), ("a(", "a", ")", ";"), ("a[", "a", "]", ";"),
            ("!", "a", "", ";"), ("-", "a", "", ";"), ("while (a) { ", "", "}", ""), ("for (b in a) { ", "", "}", ""),
            ("function f() { ", "", "}", ""), ("try { ", "", "} catch (e) { }", ""), ("try { } catch (e) { ", "", "}", ""),
        ):
            before = "b = " if after == ";" else ""
            self.assertIs(is_statement(before + nested(begin, middle, end, 40) + after), True, begin)
            self.assertIs(is_statement(before + nested(begin, middle, end, 41) + after), False, begin)

    def test_functions_within_each_other(self):
        self.assertIs(is_statement("a = " + nested("function () { return ", "1", "; }", 40) + ";"), True)
        self.assertIs(is_statement("a = " + nested("function () { return ", "1", "; }", 41) + ";"), False)

    def test_an_if_and_its_block_are_two_parts(self):
        self.assertIs(is_statement(nested("if (a) { ", "", "}", 20)), True)
        self.assertIs(is_statement(nested("if (a) { ", "", "}", 20).replace("{ }", "{ (a); }")), False)
        self.assertIs(is_statement(nested("if (a) { ", "", "}", 21)), False)

    def test_else_ifs(self):
        # Each if is open within the one before; its block is one part more.
        self.assertIs(is_statement("if (a) { }" + " else if (a) { }" * 38), True)
        self.assertIs(is_statement("if (a) { }" + " else if (a) { }" * 39), False)
        self.assertIs(is_statement("if (a) { }" + " else if (a) { }" * 38 + " else { }"), True)
        self.assertIs(is_statement("if (a) { }" + " else if (a) { }" * 38 + " else { (a); }"), False)

    def test_the_brackets_of_conditions_are_no_parts(self):
        self.assertIs(is_statement("while (" + "(" * 40 + "a" + ")" * 40 + ") { }"), True)
        self.assertIs(is_statement("if (" + "(" * 39 + "a" + ")" * 39 + ") { }"), True)
        self.assertIs(is_statement("if (" + "(" * 40 + "a" + ")" * 40 + ") { }"), False)

    def test_parts_of_several_kinds(self):
        inner = "-" * 34 + "a"
        self.assertIs(is_statement("while (a) { b(c[[!(" + inner + ")]]);}"), True)
        self.assertIs(is_statement("while (a) { b(c[[!(-" + inner + ")]]);}"), False)

    def test_parts_that_are_closed_do_not_count(self):
        for text in ("(a);" * 100, "a = [" + "[a], " * 100 + "(a)];", "while (a) { }" * 100, "if (a) { b(); } " * 100, "a = - 1;" * 100,
                     "a[1] = b[2](3)[4];" * 100, "let a = {b: 1};" * 100, "try { } catch (e) { }" * 100, "function f() { }" * 100):
            self.assertIs(is_statement(text), True, text[:20])

    def test_operations_of_each_level(self):
        for signs in (("||",), ("&&",), ("+", "-"), ("*", "/"), ("+",), ("-",), ("*",), ("/",)):
            text = "a"
            for many in range(1, 42):
                text += " " + signs[many % len(signs)] + " a"
                self.assertIs(is_statement(text + ";"), many <= 40, (signs, many))

    def test_operations_of_several_levels(self):
        sums = "a" + " + a" * 40
        self.assertIs(is_statement(f"{sums} < {sums};"), True)
        self.assertIs(is_statement(" && ".join(["a" + " * a" * 40] * 41) + ";"), True)
        self.assertIs(is_statement(f"({sums}) + ({sums});"), True)
        self.assertIs(is_statement(f"a * b {'+ a * b' * 40};"), True)
        self.assertIs(is_statement(f"a * b {'+ a * b' * 41};"), False)

    def test_suffixes_of_each_kind(self):
        for suffix in ("()", "(a)", "[a]", ".b"):
            self.assertIs(is_statement("a" + suffix * 40 + ";"), True, suffix)
            self.assertIs(is_statement("a" + suffix * 41 + ";"), False, suffix)
        self.assertIs(is_statement("a" + ".b[a]" * 20 + ";"), True)
        self.assertIs(is_statement("a" + ".b[a]" * 20 + "();"), False)
        self.assertIs(is_statement("a" + ".b" * 40 + " + a" + ".b" * 40 + ";"), True)

    def test_rows_have_no_limit(self):
        self.assertEqual(len(expression("[" + "1, " * 2999 + "1]")[1]), 3000)
        self.assertEqual(len(parse_script("a;" * 3000)), 3000)


if __name__ == "__main__":
    unittest.main()
