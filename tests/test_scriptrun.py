"""Scripts that run [12] [13]: what they print, and the words of their faults."""

import unittest

from pagestack.page import Page


def run(script, before=""):
    """Return (what a script prints, the faults of its page)."""
    page = Page(before + "<script>" + script + "</script>")
    return page.printed, page.faults


class Running(unittest.TestCase):
    def prints(self, script, *wanted):
        """Check what a script prints, without a fault."""
        self.assertEqual(run(script), (list(wanted), []), script)

    def fails(self, script, word, *wanted):
        """Check the word of a script's fault, and what it prints before."""
        self.assertEqual(run(script), (list(wanted), [word]), script)

    def gives(self, expression, wanted):
        """Check the text of an expression's value."""
        self.prints("print(" + expression + ");", wanted)


class Values(Running):
    def test_sums_and_products(self):
        for expression, wanted in (("1 + 2", "3"), ("1 - 2", "-1"), ("2 * 3", "6"), ("7 / 2", "3"), ("-7 / 2", "-4"), ("7 / -2", "-4"),
                                   ("-7 / -2", "3"), ("0 / 5", "0"), ("1 + 2 * 3", "7"), ("(1 + 2) * 3", "9"), ("10 - 2 - 3", "5"),
                                   ("20 / 2 / 5", "2"), ("-5", "-5"), ("--5", "5"), ("2 - -2", "4"), ("-0", "0")):
            self.gives(expression, wanted)

    def test_division_by_zero(self):
        for expression in ("1 / 0", "0 / 0", "-3 / 0", "1 / (2 - 2)"):
            self.fails("print(" + expression + ");", "division by zero")

    def test_numbers_of_15_digits(self):
        big = "let m = 999999999; let b = m * 1000000 + 999999; "
        self.prints(big + "print(b); print(-b); print(b - 1); print(b / 1);", "9" * 15, "-" + "9" * 15, "9" * 14 + "8", "9" * 15)
        for expression in ("b + 1", "-b - 1", "b * 10", "b + b", "b * -2", "b * b"):
            self.fails(big + "print(" + expression + ");", "no number")

    def test_each_operation_with_each_kind_of_value(self):
        kinds = ("null", "true", "[1]", "{}", "print", "function () { }", "find(\"p\")")
        for sign in "+-*/":
            for one in kinds:
                for other in kinds + ("1",):
                    for expression in (f"{one} {sign} {other}", f"{other} {sign} {one}"):
                        self.assertEqual(run(f"print({expression});", '<p id="p">a</p>'), ([], ["no number"]), expression)
        for sign in "-*/":
            for expression in (f'"1" {sign} 1', f'1 {sign} "1"', f'"1" {sign} "1"'):
                self.fails(f"print({expression});", "no number")

    def test_joining(self):
        for expression, wanted in (('"a" + "b"', "ab"), ('"a" + 1', "a1"), ('1 + "a"', "1a"), ('"a" + null', "anull"), ('true + "a"', "truea"),
                                   ('"a" + [1, "b"]', "a[1, b]"), ('{b: 1} + ""', "{b: 1}"), ('"" + print', "function"), ('1 + 2 + "a" + 1 + 2', "3a12")):
            self.gives(expression, wanted)

    def test_texts_of_2000_signs(self):
        script = 'let t = "{}"; let u = t + t; print(len(u)); print(len(u + "{}"));'
        self.prints(script.format("x" * 999, "yy"), "1998", "2000")
        self.fails(script.format("x" * 999, "yyy"), "too long", "1998")
        self.fails(script.format("x" * 999, "yy").replace('u + "yy"', 'u + "yy" + ""  + 1'), "too long", "1998")
        self.fails('let t = "' + "x" * 1999 + '"; print(len(12 + t));', "too long")

    def test_a_text_that_is_written_out_may_be_longer(self):
        self.prints('print(len("' + "x" * 2100 + '"));', "2100")

    def test_comparing(self):
        for expression, wanted in (("1 < 2", "true"), ("2 < 2", "false"), ("2 <= 2", "true"), ("3 <= 2", "false"), ("3 > 2", "true"), ("2 > 2", "false"),
                                   ("2 >= 2", "true"), ("1 >= 2", "false"), ('"a" < "b"', "true"), ('"b" < "a"', "false"), ('"a" < "ab"', "true"),
                                   ('"B" < "a"', "true"), ('"10" < "9"', "true"), ('"a" >= "a"', "true"), ("-1 < 0", "true")):
            self.gives(expression, wanted)

    def test_comparing_other_values(self):
        for sign in ("<", "<=", ">", ">="):
            for one, other in (("1", '"1"'), ("null", "null"), ("true", "false"), ("[1]", "[2]"), ("{}", "{}"), ("print", "print"), ("1", "true"),
                               ("null", "0"), ('"a"', "null")):
                self.fails(f"print({one} {sign} {other});", "no number")
                self.fails(f"print({other} {sign} {one});", "no number")

    def test_equal_values(self):
        for expression, wanted in (("1 == 1", "true"), ("1 == 2", "false"), ("1 == true", "false"), ("0 == false", "false"), ('"" == false', "false"),
                                   ("null == false", "false"), ("null == null", "true"), ('"a" == "a"', "true"), ('1 == "1"', "false"), ("[] == []", "false"),
                                   ("{} == {}", "false"), ("print == print", "true"), ("print == find", "false"), ("true == true", "true"),
                                   ("true == !false", "true"), ("1 != 2", "true"), ("1 != 1", "false"), ("1 != true", "true"), ("[] != []", "true")):
            self.gives(expression, wanted)
        self.prints("let a = [1]; let b = a; let t = {}; let u = t; print(a == b); print(t == u); print(t != u);", "true", "true", "false")
        self.prints("let f = function () { }; let g = f; print(f == g); print(f == function () { });", "true", "false")
        found = run('print(find("p") == find("p")); print(find("p") == make("p")); print(find("x") == null);', '<p id="p">a</p>')
        self.assertEqual(found, (["true", "false", "true"], []))

    def test_truths(self):
        self.prints("for (v in [null, false, 0, \"\", []]) { if (v) { print(v); } else { print(!v); } }", *["true"] * 5)
        self.prints("for (v in [true, 1, -1, \"a\", [0], {}, print]) { if (v) { print(!v); } else { print(v); } }", *["false"] * 7)

    def test_and_and_or_answer_a_side(self):
        for expression, wanted in (("1 && 2", "2"), ("0 && 2", "0"), ('"" && 2', ""), ("1 || 2", "1"), ("0 || 2", "2"), ("null || 0", "0"), ("[] || {}", "{}"),
                                   ("1 && 0 || 3", "3"), ("0 || 1 && 2", "2"), ("1 || 1 / 0", "1"), ("null && nothing", "null")):
            self.gives(expression, wanted)
        self.fails("print(1 && nothing);", "unknown name")

    def test_minus_and_not(self):
        for value in ('"1"', "null", "true", "[]", "{}", "print"):
            self.fails("print(-" + value + ");", "no number")
        self.gives("!!5", "true")


class Names(Running):
    def test_let_and_assignments(self):
        self.prints("let a = 1; a = a + 1; print(a); let a = 5; print(a);", "2", "5")
        self.fails("a = 1;", "unknown name")
        self.fails("print(a);", "unknown name")
        self.fails("let a = a;", "unknown name")
        self.fails("if (true) { let a = 1; } print(a);", "unknown name")

    def test_the_value_is_reckoned_before_a_name_is_looked_for(self):
        self.fails("nothing = print(1);", "unknown name", "1")

    def test_blocks_have_their_own_names(self):
        self.prints("let a = 1; if (true) { let a = 2; print(a); } print(a);", "2", "1")
        self.prints("let a = 1; if (true) { a = 2; } print(a);", "2")
        self.prints("let a = 1; if (true) { print(a); let a = 2; a = 3; print(a); } print(a);", "1", "3", "1")
        self.prints("let a = 1; while (a < 3) { let b = a; a = a + 1; let a = 9; } print(a);", "3")
        self.prints("let e = 1; try { throw 2; } catch (e) { print(e); } print(e);", "2", "1")
        self.prints("let x = 1; for (x in [2, 3]) { x = x + 10; print(x); } print(x);", "12", "13", "1")
        self.prints("let a = 1; if (false) { } else { let a = 2; } try { let a = 3; } catch (e) { } print(a);", "1")

    def test_functions_are_known_from_the_beginning(self):
        self.prints("print(f(2)); function f(n) { return g(n) + 1; } function g(n) { return n * 10; }", "21")
        self.prints("if (true) { print(f()); function f() { return 1; } }", "1")
        self.fails("if (true) { function f() { return 1; } } f();", "unknown name")
        self.prints("function f() { return 1; } function f() { return 2; } print(f());", "2")
        self.prints("print(f()); let f = 5; function f() { return 1; } print(f);", "1", "5")

    def test_functions_of_each_round_are_new(self):
        self.prints("let old = null; for (x in [1, 2]) { print(f == old); old = f; function f() { } }", "false", "false")

    def test_names_around_a_function(self):
        self.prints("let a = 1; function f() { return a; } a = 2; print(f()); let b = f; print(b());", "2", "2")
        script = "function counter() { let n = 0; return function () { n = n + 1; return n; }; } let c = counter(); let d = counter(); "
        self.prints(script + "c(); c(); print(c()); print(d());", "3", "1")
        self.prints("let a = 1; function f() { return a; } function g() { let a = 2; return f(); } print(g());", "1")

    def test_each_round_of_a_for_has_a_name_of_its_own(self):
        self.prints("let fs = []; for (x in [1, 2]) { push(fs, function () { return x; }); } print(fs[0]()); print(fs[1]());", "1", "2")

    def test_names_of_the_page_can_be_made_anew(self):
        self.prints("let len = function (v) { return 5; }; print(len([]));", "5")
        self.prints("function len(v) { return 6; } print(len([]));", "6")
        self.prints("if (true) { let print = 1; } print(2);", "2")

    def test_scripts_share_their_names(self):
        page = Page("<script>let a = 1; function f() { a = a + 1; return a; }</script><script>print(f()); print(a);</script>")
        self.assertEqual((page.printed, page.faults), (["2", "2"], []))


class Functions(Running):
    def test_arguments(self):
        self.prints("function f(a, b) { return [a, b]; } print(f()); print(f(1)); print(f(1, 2)); print(f(1, 2, 3));",
                    "[null, null]", "[1, null]", "[1, 2]", "[1, 2]")

    def test_answers(self):
        self.prints("function f() { } print(f());", "null")
        self.prints("function f() { return; print(1); } print(f());", "null")
        self.prints("function f(n) { while (true) { for (x in [1, 2]) { if (x == n) { return x; } } return 0; } } print(f(2)); print(f(3));", "2", "0")
        self.prints("function f() { try { return 1; } catch (e) { return 2; } } print(f());", "1")
        self.prints("print((function (a) { return a + 1; })(4));", "5")

    def test_a_break_does_not_leave_a_function(self):
        self.prints("function f() { break; print(1); } for (x in [1, 2]) { f(); print(x); }", "1", "2")

    def test_a_return_or_break_outside_ends_the_script(self):
        self.prints("print(1); return; print(2);", "1")
        self.prints("print(1); break; print(2);", "1")

    def test_what_is_no_function(self):
        for value in ("1", '"a"', "null", "true", "[]", "{}", 'make("p")'):
            self.fails("let f = " + value + "; f();", "no function")
        self.fails("let t = {}; t.a();", "no function")
        self.fails("let f = 1; f(print(2));", "no function", "2")

    def test_functions_in_lists_and_tables(self):
        self.prints("let t = {f: function (a) { return a * 2; }, l: [print]}; t.l[0](t.f(4));", "8")

    def test_page_functions_need_as_many_as_told(self):
        self.fails("print();", "other arguments")
        self.fails("print(1, 2);", "other arguments")
        self.fails("let p = push; p([]);", "other arguments")


class Places(Running):
    def test_items_and_fields(self):
        self.prints('let l = [1, [2, 3]]; print(l[0]); print(l[1][1]); print("abc"[1]); let t = {a: {b: 4}}; print(t.a.b); print(t["a"]["b"]);',
                    "1", "3", "b", "4", "4")
        self.prints('let t = {a: 1}; print(t.b); print(t["c d"]); print(t.b == null);', "null", "null", "true")

    def test_no_such_places(self):
        for expression in ("[1][1]", "[1][-1]", "[][0]", '"a"[1]', '"a"[-1]', '""[0]', '[1]["0"]', "[1][null]", "[1][true]", '"a"[false]', "{a: 1}[0]",
                           "{}[null]", "5[0]", "null[0]", "null.a", "true.a", "5.a", '"a".a', "[1].a", "print.a", "print[0]", 'make("p").tag',
                           '"a"["a"]', "null[\"a\"]"):
            self.fails("print(" + expression + ");", "no such place")

    def test_assigning(self):
        self.prints("let l = [1, 2]; l[1] = 5; l[0] = l; print(l[1]); let m = l; m[1] = 6; print(l[1]);", "5", "6")
        self.prints('let t = {}; t.a = 1; t["b c"] = 2; t.a = 3; print(t); let u = t; u.d = [t.a]; print(t.d);', "{a: 3, b c: 2}", "[3]")
        self.prints("let t = {l: [{}]}; t.l[0].x = 1; print(t);", "{l: [{x: 1}]}")

    def test_no_such_places_to_assign_to(self):
        for place in ("[1][1]", "[1][-1]", "[][0]", '"a"[0]', "[1].a", "{}[0]", "null.a", "5[0]", '[1]["0"]', "[1][true]", "print.a", "(true).a"):
            self.fails("let v = 1; " + place + " = v;", "no such place")

    def test_the_parts_of_a_place_are_reckoned_before_the_value(self):
        script = "function f(v) { print(v); return v; } "
        self.prints(script + "let l = [[0, 0]]; l[f(0)][f(1)] = f(2); print(l);", "0", "1", "2", "[[0, 2]]")
        self.fails(script + "let l = [0]; l[f(5)] = f(1);", "no such place", "5", "1")
        self.fails(script + "let t = {}; t.a.b = f(1);", "no such place", "1")

    def test_sides_are_reckoned_from_the_left(self):
        script = "function f(v) { print(v); return v; } "
        self.prints(script + "let a = f(1) + f(2) * f(3); let l = [f(4), f(5)]; let t = {b: f(6), a: f(7)}; l[f(0)]; f(f(8), f(9));",
                    "1", "2", "3", "4", "5", "6", "7", "0", "8", "9", "8")

    def test_lists_of_2000_parts(self):
        script = "let l = [" + ", ".join(["0"] * 1999) + "]; print(push(l, 1)); "
        self.prints(script + "print(len(l)); l[1999] = 2; print(l[1999]);", "2000", "2000", "2")
        self.fails(script + "push(l, 1);", "no list", "2000")

    def test_tables_of_2000_parts(self):
        script = "let t = {" + ", ".join([f"a{place}: 0" for place in range(1999)]) + "}; t.b = 1; print(len(t)); "
        self.prints(script + 't.b = 2; t.a0 = 3; t["a1"] = 4; print(len(t));', "2000", "2000")
        self.fails(script + "t.c = 1;", "no such place", "2000")
        self.fails(script + 't["c"] = 1;', "no such place", "2000")


class Loops(Running):
    def test_while(self):
        self.prints("let i = 0; while (i < 3) { print(i); i = i + 1; }", "0", "1", "2")
        self.prints("while (false) { print(1); } print(2);", "2")
        self.prints("let i = 0; while (true) { i = i + 1; if (i == 2) { break; } print(i); } print(i);", "1", "2")

    def test_for(self):
        self.prints("for (x in [1, [2], \"a\"]) { print(x); } for (x in []) { print(x); }", "1", "[2]", "a")
        self.prints('for (k in {b: 1, a: 2, "A": 3, a1: 4}) { print(k); }', "A", "a", "a1", "b")
        self.prints("for (x in [1, 2, 3]) { if (x == 2) { break; } print(x); }", "1")
        self.prints("for (x in [1, 2]) { for (y in [1, 2]) { if (y == 2) { break; } print(x * 10 + y); } }", "11", "21")

    def test_a_list_or_table_that_changes_meanwhile(self):
        self.prints("let l = [1, 2]; for (x in l) { push(l, x * 10); l[1] = 7; print(x); } print(l);", "1", "2", "[1, 7, 10, 20]")
        self.prints("let t = {a: 1, b: 2}; for (k in t) { t[k + k] = 1; t.b = 5; print(t[k]); } print(len(t));", "1", "5", "4")

    def test_what_a_for_cannot_go_through(self):
        for value in ("1", '"abc"', "null", "true", "print", 'make("p")'):
            self.fails("for (x in " + value + ") { print(1); }", "no list")

    def test_ifs(self):
        script = "for (x in [1, 2, 3]) { if (x == 1) { print(\"a\"); } else if (x == 2) { print(\"b\"); } else { print(\"c\"); } }"
        self.prints(script, "a", "b", "c")
        self.prints("if (0) { print(1); } print(2);", "2")


class Faults(Running):
    def test_what_is_thrown(self):
        self.prints("try { print(1); throw [2]; print(3); } catch (e) { print(e); } print(4);", "1", "[2]", "4")
        self.prints("try { throw null; } catch (e) { print(e); }", "null")
        self.prints("function f() { throw {a: 1}; } try { f(); } catch (e) { print(e.a); }", "1")
        self.fails("print(1); throw 5; print(2);", "thrown", "1")
        self.fails('throw "no text";', "thrown")

    def test_faults_are_caught_by_their_word(self):
        for code, word in (("1 / 0;", "division by zero"), ("nothing;", "unknown name"), ("null();", "no function"), ("[][0];", "no such place"),
                           ("-null;", "no number"), ("for (x in 1) { }", "no list"), ("print();", "other arguments"), ("find(1);", "no text"),
                           ("tag(1);", "no element"), ("later(print, 1);", "no function"), ('make("");', "no name"), ("stop(1);", "no event"),
                           ("later(function () { }, -1);", "no time"), ('remove(make("p"));', "no parent"),
                           ('let d = make("p"); append(d, d);', "a node above itself"), ('let t = "' + "x" * 1500 + '"; t + t;', "too long")):
            self.prints("try { " + code + " print(0); } catch (e) { print(e); }", word)
            self.fails(code, word)

    def test_a_fault_in_each_place_of_a_try(self):
        self.prints("try { let a = 1 / 0; } catch (e) { print(e); }", "division by zero")
        self.fails("try { 1 / 0; } catch (e) { nothing; }", "unknown name")
        self.fails("try { throw 1; } catch (e) { throw e; }", "thrown")
        self.prints("try { try { throw 1; } catch (e) { throw e + 1; } } catch (e) { print(e); }", "2")
        self.prints("try { try { throw 1; } catch (e) { print(e); } throw 2; } catch (e) { print(e); }", "1", "2")
        self.prints("try { } catch (e) { print(1); } print(2);", "2")
        self.prints("while (true) { try { break; } catch (e) { } print(1); } print(2);", "2")
        self.prints("while (true) { try { throw 1; } catch (e) { break; } } print(2);", "2")

    def test_what_was_done_before_a_fault_stays(self):
        self.prints("let a = 1; try { a = 2; 1 / 0; } catch (e) { } print(a);", "2")

    def test_steps(self):
        self.fails("while (true) { }", "too many steps")
        self.fails("for (x in [1]) { while (x) { } } print(2);", "too many steps")
        self.prints("let i = 0; while (i < 1000) { i = i + 1; } print(i);", "1000")

    def test_too_many_steps_are_not_caught(self):
        self.fails("try { while (true) { } } catch (e) { print(e); } print(1);", "too many steps")

    def test_each_statement_and_each_expression_is_a_step(self):
        self.prints("1; " * 10000)
        self.fails("1; " * 9999 + "-1;", "too many steps")
        self.prints("1 + 1; " * 5000)
        self.fails("1 + 1; " * 5000 + "1;", "too many steps")

    def test_each_task_has_steps_of_its_own(self):
        script = "let i = 0; while (i < 2000) { i = i + 1; } print(i);"
        page = Page("<script>" + script + "</script><script>" + script + "</script>")
        self.assertEqual((page.printed, page.faults), (["2000", "2000"], []))

    def test_depth_by_calls(self):
        self.fails("function f() { f(); } f();", "too deep")
        self.fails("function f() { return f(); } try { f(); } catch (e) { print(e); }", "too deep")
        self.prints("function f(n) { if (n == 0) { return 0; } return f(n - 1) + 1; } print(f(8));", "8")

    def test_depth_by_other_parts(self):
        def sums(many):
            return "(" * (many - 1) + "1" + (" + 1" * 30 + ")") * (many - 1) + " + 1" * 30
        self.prints("let a = " + sums(2) + "; print(a);", "61")
        self.fails("let a = " + sums(3) + ";", "too deep")
        # A statement, 88 sums and their first number are 90 parts within each other; one more is too deep.
        self.prints("let a = ((1" + " + 1" * 28 + ")" + " + 1" * 30 + ")" + " + 1" * 30 + "; print(a);", "89")
        self.fails("let a = ((1" + " + 1" * 29 + ")" + " + 1" * 30 + ")" + " + 1" * 30 + "; print(a);", "too deep")

    def test_a_call_counts_four_more(self):
        # The statement, the call and 4 more, the return, and then sums with their first number: 90 parts.
        script = "function f() {{ return ((1{}){}){}; }} f(); print(0);"
        thirty = " + 1" * 30
        self.prints(script.format(" + 1" * 22, thirty, thirty), "0")
        self.fails(script.format(" + 1" * 23, thirty, thirty), "too deep")

    def test_depth_is_as_before_behind_a_caught_fault(self):
        script = "let i = 0; while (i < 60) { try { i = i + 1; [[[[[1 / 0]]]]]; } catch (e) { } } print(i);"
        self.prints(script, "60")

    def test_depth_is_as_before_behind_a_return_or_a_break(self):
        self.prints("function f() { while (true) { return 1; } } let i = 0; while (i < 100) { i = i + f(); while (true) { break; } } print(i);", "100")

    def test_each_task_begins_at_no_depth(self):
        deep = "let a = ((1" + " + 1" * 28 + ")" + " + 1" * 30 + ")" + " + 1" * 30
        page = Page("<script>" + deep + " + null; </script><script>" + deep + "; print(a);</script>")
        self.assertEqual((page.printed, page.faults), (["89"], ["too deep"]))

    def test_no_script(self):
        for text in ("let", "1 +;", "@", "a = ;"):
            self.assertEqual(run("print(1); " + text), ([], ["no script"]))


if __name__ == "__main__":
    unittest.main()
