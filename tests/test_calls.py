"""What scripts may ask of their page [14]: what each call answers, and what it does to the tree."""

import unittest

from pagestack.calls import FUNCTIONS, Calls, event_part, good_tag, number_of
from pagestack.errors import RunError, StyleError, TreeError
from pagestack.events import Event
from pagestack.markup import inner_markup
from pagestack.page import Page
from pagestack.scriptvalues import ScriptList

MARKUP = '<div id="a" class="k"><p id="b">one <b id="c">two</b></p><img id="i"></div><input id="n" value="v"><form id="w"></form>'


def page_of(script, markup=MARKUP):
    """Return a page whose script knows the elements with ids a, b, c, i, n and w by these names."""
    names = "".join([f'let {name} = find("{name}"); ' for name in "abcinw"])
    return Page(markup + "<script>" + names + script + "</script>")


def run(script, markup=MARKUP):
    """Return (what was printed, the faults)."""
    page = page_of(script, markup)
    return page.printed, page.faults


def tree(script, markup=MARKUP):
    """Return the markup of what is in the root behind a script, without the script."""
    page = page_of(script, markup)
    assert page.faults == [], page.faults
    return inner_markup(page.document.root).partition("<script>")[0]


class Asking(unittest.TestCase):
    def gives(self, expression, wanted):
        """Check the text of an expression's value."""
        self.assertEqual(run("print(" + expression + ");"), ([wanted], []), expression)

    def fails(self, script, word):
        """Check the word of the fault in which a script ends."""
        self.assertEqual(run(script + " print(1);"), ([], [word]), script)


class Numbers(Asking):
    def test_how_many_arguments_each_function_takes(self):
        for name, least, most in FUNCTIONS:
            for many in range(most + 2):
                faults = run(name + "(" + ", ".join(["null"] * many) + ");")[1]
                is_counted = not least <= many <= most
                self.assertEqual(faults == ["other arguments"], is_counted, (name, many))

    def test_functions(self):
        self.assertEqual(len(FUNCTIONS), 38)
        self.assertEqual(FUNCTIONS[0], ("find", 1, 1))
        self.assertEqual({name: (least, most) for name, least, most in FUNCTIONS if least != most},
                         {"on": (3, 4), "off": (3, 4), "once": (3, 4), "send": (2, 3)})
        self.assertEqual({name for name, least, _ in FUNCTIONS if least == 2},
                         {"setText", "get", "append", "before", "setValue", "send", "later", "push"})

    def test_do(self):
        page = Page(MARKUP)
        calls = Calls(page)
        self.assertEqual(calls.do("find", ["b"]), page.document.by_id("b"))
        self.assertIsNone(calls.do("print", [5]))
        self.assertEqual(page.printed, ["5"])
        self.assertEqual(calls.do("push", [ScriptList(1, [1]), 2]), 2)
        for name in ("", "nothing", "Find"):
            with self.assertRaises(RunError) as caught:
                calls.do(name, [1])
            self.assertEqual(caught.exception.word, "no function")
        with self.assertRaises(TreeError):
            calls.do("remove", [page.document.root])
        with self.assertRaises(StyleError):
            calls.do("all", ["!"])


class Finding(Asking):
    def test_find(self):
        self.gives('find("b")', "<p>")
        self.gives('find("x")', "null")
        self.gives('find("a") == a', "true")
        self.fails("find(5);", "no text")
        self.assertEqual(run('remove(b); print(find("b")); print(find("c"));')[0], ["null", "null"])

    def test_all(self):
        self.gives('all("div *, input")', "[<p>, <b>, <img>, <input>]")
        self.gives('all("#x")', "[]")
        self.gives('all("html")', "[<html>]")
        self.gives('all("p")[0] == b', "true")
        self.fails("all(null);", "no text")
        page = page_of('try { all("!"); } catch (e) { print(kind(e)); } all("p >");')
        self.assertEqual((page.printed, len(page.faults)), (["text"], 1))
        self.assertNotEqual(page.faults, ["no text"])

    def test_parent_and_children(self):
        self.gives("parent(b)", "<div>")
        self.gives("parent(parent(a))", "null")
        self.gives('parent(make("p"))', "null")
        self.gives("children(a)", "[<p>, <img>]")
        self.gives("children(b)", "[<b>]")
        self.gives("children(c)", "[]")
        for name in ("parent", "children", "tag", "text", "value", "remove", "box"):
            for value in ("null", '"a"', "1", "[a]", "print"):
                self.fails(name + "(" + value + ");", "no element")

    def test_tag_text_and_value(self):
        self.gives("tag(c)", "b")
        self.gives("tag(parent(a))", "html")
        self.gives("text(b)", "one two")
        self.gives("text(i)", "")
        self.gives("value(n)", "v")
        self.gives("value(a)", "")

    def test_a_text_is_cut(self):
        self.assertEqual(run('print(len(text(find("q"))));', f'<p id="q">{"x" * 2000}</p>')[0], ["2000"])
        self.assertEqual(run('print(len(text(find("q"))));', f'<p id="q">{"x" * 1500}<b>{"y" * 600}</b></p>')[0], ["2000"])

    def test_get(self):
        self.gives('get(a, "class")', "k")
        self.gives('get(a, "style")', "null")
        self.fails('get(1, "class");', "no element")
        self.fails("get(a, 1);", "no text")
        self.fails('get(a, "Class");', "no name")


class Changing(Asking):
    def test_make(self):
        self.assertEqual(tree('append(b, make("u")); append(a, make("x-1"));'),
                         '<div class="k" id="a"><p id="b">one <b id="c">two</b><u></u></p><img id="i"><x-1></x-1></div>'
                         '<input id="n" value="v"><form id="w"></form>')
        self.gives('make("p") == make("p")', "false")
        self.gives('make("' + "a" * 20 + '")', "<" + "a" * 20 + ">")
        for text in ("", "P", "a b", "a_b", "\u00e4", "<", "a" * 21):
            self.fails('make("' + text + '");', "no name")
        for value in ("1", "null", "a", "[]"):
            self.fails("make(" + value + ");", "no text")

    def test_good_tag(self):
        self.assertEqual(good_tag("x-1"), "x-1")
        for value, word in (("", "no name"), ("A", "no name"), ("a" * 21, "no name"), (5, "no text"), (None, "no text"), (True, "no text")):
            with self.assertRaises(RunError) as caught:
                good_tag(value)
            self.assertEqual(caught.exception.word, word)

    def test_set_text(self):
        for value, wanted in (('"<x>"', "&lt;x&gt;"), ('""', ""), ("5", "5"), ("null", "null"), ("[1, true]", "[1, true]"), ("a", "&lt;div&gt;")):
            found = tree("print(setText(b, " + value + "));")
            self.assertEqual(found, f'<div class="k" id="a"><p id="b">{wanted}</p><img id="i"></div><input id="n" value="v"><form id="w"></form>')
        self.assertEqual(run("print(setText(b, 1));")[0], ["null"])
        self.fails('setText("b", 1);', "no element")
        self.assertEqual(len(run("setText(i, 1);")[1]), 1)

    def test_set(self):
        page = page_of('print(set(a, "class", "m n")); set(a, "data-x", 5); set(b, "id", null); set(b, "none", null); set(c, "title", true);')
        self.assertEqual((page.printed, page.faults), (["null"], []))
        self.assertEqual([page.document.nodes[number].attributes for number in (1, 2, 4)],
                         [{"id": "a", "class": "m n", "data-x": "5"}, {}, {"id": "c", "title": "true"}])
        self.fails('set(1, "class", 1);', "no element")
        self.fails("set(a, null, 1);", "no text")
        self.fails('set(a, "a b", 1);', "no name")
        self.fails('set(a, "' + "x" * 21 + '", 1);', "no name")

    def test_set_value(self):
        page = page_of('print(setValue(n, "new")); setValue(a, 5); print(value(n)); print(value(a)); print(get(n, "value"));')
        self.assertEqual(page.printed, ["null", "new", "5", "v"])
        self.fails('setValue("n", 1);', "no element")

    def test_append(self):
        self.assertEqual(tree("print(append(a, b)); append(w, c);"),
                         '<div class="k" id="a"><img id="i"><p id="b">one </p></div><input id="n" value="v"><form id="w"><b id="c">two</b></form>')
        self.assertEqual(run("print(append(a, b));")[0], ["null"])
        self.fails("append(c, b);", "a node above itself")
        self.fails("append(c, c);", "a node above itself")
        self.fails("append(a, parent(a));", "a node above itself")
        for one, other in (("1", "a"), ("a", "1"), ("a", '"text"')):
            self.fails(f"append({one}, {other});", "no element")
        for name in "in":
            self.assertEqual(len(run(f"append({name}, c);")[1]), 1)

    def test_before(self):
        self.assertEqual(tree("print(before(i, b)); before(c, a);"),
                         '<b id="c">two</b><div class="k" id="a"><img id="i"><p id="b">one </p></div><input id="n" value="v"><form id="w"></form>')
        self.assertEqual(tree("before(b, i); before(b, b); before(c, c);"), tree(""))
        self.assertEqual(tree('before(make("u"), c);'),
                         '<div class="k" id="a"><p id="b">one <u></u><b id="c">two</b></p><img id="i"></div><input id="n" value="v"><form id="w"></form>')
        self.assertEqual(run("print(before(i, b));")[0], ["null"])
        self.fails('before(a, make("p"));', "no parent")
        self.fails("before(a, parent(a));", "no parent")
        self.fails("before(a, c);", "a node above itself")
        self.fails("before(a, null);", "no element")
        self.fails("before(null, a);", "no element")

    def test_remove(self):
        self.assertEqual(tree("print(remove(b));"), '<div class="k" id="a"><img id="i"></div><input id="n" value="v"><form id="w"></form>')
        self.fails("remove(b); remove(b);", "no parent")
        self.fails('remove(make("p"));', "no parent")
        self.fails("remove(parent(a));", "no parent")
        self.assertEqual(tree("remove(b); append(a, b); before(b, i);"), tree(""))

    def test_levels(self):
        script = 'let e = make("p"); let m = 0; try { while (true) { let x = make("p"); append(x, e); e = x; m = m + 1; } } catch (w) { print(m); } append(a, e);'
        page = page_of(script)
        self.assertEqual(page.printed, ["99"])
        self.assertEqual(len(page.faults), 1)


class Values(Asking):
    def test_print(self):
        self.assertEqual(run('print(print("a")); print([a, 1]);')[0], ["a", "null", "[<div>, 1]"])

    def test_len(self):
        for value, wanted in (("[]", "0"), ("[1, [2, 3]]", "2"), ('"abc"', "3"), ('""', "0"), ("{a: 1, b: 2}", "2")):
            self.gives("len(" + value + ")", wanted)
        for value in ("1", "null", "true", "a", "print"):
            self.fails("len(" + value + ");", "no list")

    def test_push(self):
        self.assertEqual(run("let l = []; print(push(l, 5)); print(push(l, l)); print(len(l)); print(l[0]);")[0], ["1", "2", "2", "5"])
        for value in ("1", '"abc"', "{}", "null"):
            self.fails("push(" + value + ", 1);", "no list")

    def test_keys(self):
        self.gives('keys({b: 1, a: 2, "A": 3})', "[A, a, b]")
        self.gives("keys({})", "[]")
        for value in ("[]", "1", '"a"', "null"):
            self.fails("keys(" + value + ");", "no list")

    def test_str(self):
        for value in ("5", "null", "true", '"a"', "[1]", "{a: 1}", "a", "print"):
            self.gives("str(" + value + ") + \"\"", run("print(" + value + ");")[0][0])
        self.gives("kind(str(5))", "text")
        self.assertEqual(run('let t = "' + "x" * 1500 + '"; print(len(str([t, t])));')[0], ["2000"])

    def test_num(self):
        for text, wanted in (("12", "12"), ("-7", "-7"), ("007", "7"), ("9" * 15, "9" * 15), ("-" + "9" * 15, "-" + "9" * 15), ("-0", "0"),
                             ("", "null"), ("-", "null"), ("1" * 16, "null"), ("1 ", "null"), (" 1", "null"), ("+1", "null"), ("--1", "null"),
                             ("1.5", "null"), ("a", "null"), ("1e3", "null"), ("\u0661", "null"), ("\u00b2", "null")):
            self.gives(f'num("{text}")', wanted)
        self.gives('num("12") + 1', "13")
        for value in ("null", "true", "[]", "5"):
            self.fails("num(" + value + ");", "no text")

    def test_number_of(self):
        self.assertEqual([number_of(text) for text in ("0", "-12", "9" * 15, "1" * 16, "", "x")], [0, -12, 10 ** 15 - 1, None, None, None])

    def test_kind(self):
        for value, wanted in (("null", "null"), ("false", "truth"), ('""', "text"), ("0", "number"), ("[]", "list"), ("{}", "table"), ("a", "element"),
                              ("print", "function"), ("function () { }", "function")):
            self.gives("kind(" + value + ")", wanted)
        self.assertEqual(run('on(a, "x", function (e) { print(kind(e)); print(e); }); send(a, "x");')[0], ["thing", "thing"])

    def test_go(self):
        page = page_of('print(go("there?a=1"));')
        self.assertEqual((page.printed, page.wanted), (["null"], "there?a=1"))
        self.assertIsNone(page_of("").wanted)
        self.assertEqual(page_of('go("x"); go("");').wanted, "")
        self.fails("go(1);", "no text")

    def test_box(self):
        self.assertEqual(run("print(box(a)); print(box(b)); print(box(c)); print(box(i)); print(box(parent(a)));")[0],
                         ["[0, 0, 40, 4]", "[0, 1, 40, 1]", "null", "null", "[0, 0, 40, 5]"])
        self.assertEqual(run('set(a, "style", "width: 5; margin: 2; display: flex"); print(box(a)); print(box(i)); print(box(make("p")));')[0],
                         ["[2, 2, 5, 3]", "[2, 5, 0, 0]", "null"])


class Listening(Asking):
    def test_on_and_off(self):
        script = "function f(e) { print(phase(e)); } "
        self.assertEqual(run(script + 'print(on(b, "x", f)); print(on(b, "x", f)); print(on(b, "x", f, true)); send(b, "x");')[0],
                         ["true", "false", "true", "target", "target"])
        self.assertEqual(run(script + 'on(b, "x", f); print(off(b, "x", f, true)); print(off(b, "y", f)); print(off(a, "x", f)); print(off(b, "x", f)); '
                             'print(off(b, "x", f)); send(b, "x");')[0], ["false", "false", "false", "true", "false"])

    def test_true_alone_captures(self):
        script = 'function f(e) { print(phase(e)); } on(a, "note", f, VALUE); send(b, "note");'
        for value, wanted in (("true", ["capture"]), ("false", ["bubble"]), ("1", ["bubble"]), ('"true"', ["bubble"]), ("null", ["bubble"]), ("[1]", ["bubble"])):
            self.assertEqual(run(script.replace("VALUE", value))[0], wanted, value)

    def test_once(self):
        script = 'function f(e) { print("f"); } '
        self.assertEqual(run(script + 'print(once(b, "x", f)); print(once(b, "x", f)); print(on(b, "x", f)); send(b, "x"); send(b, "x");')[0],
                         ["true", "false", "false", "f"])
        self.assertEqual(run(script + 'once(a, "x", f, true); send(b, "x"); send(b, "x");')[0], ["f"])

    def test_what_listeners_cannot_be(self):
        for name in ("on", "once", "off"):
            self.fails(name + '(null, "x", function () { });', "no element")
            self.fails(name + "(a, 1, function () { });", "no text")
        for name in ("on", "once"):
            for value in ("print", "1", "null", '"f"'):
                self.fails(name + '(a, "x", ' + value + ");", "no function")
        self.assertEqual(run('print(off(a, "x", 5)); print(off(a, "x", print));')[0], ["false", "false"])

    def test_send(self):
        script = 'on(b, "x", function (e) { print(detail(e)); }); '
        self.assertEqual(run(script + 'print(send(b, "x")); print(send(b, "x", [1])); print(send(b, "y"));'), (["", "true", "[1]", "true", "true"], []))
        self.assertEqual(run('on(b, "x", function (e) { print(refuse(e)); }); print(send(b, "x"));')[0], ["null", "false"])
        self.assertEqual(run('let d = make("p"); on(d, "x", function (e) { print(target(e) == d); }); send(d, "x");')[0], ["true"])
        self.fails('send(1, "x");', "no element")
        self.fails("send(a, 1);", "no text")

    def test_parts_of_an_event(self):
        script = ('on(a, "note", function (e) { print([tag(target(e)), tag(current(e)), phase(e), detail(e)]); }); '
                  'on(a, "note", function (e) { print(phase(e)); }, true); send(c, "note", 5);')
        self.assertEqual(run(script)[0], ["capture", "[b, div, bubble, 5]"])
        self.assertEqual(run('let k = null; on(a, "x", function (e) { k = e; }); send(a, "x"); print(current(k)); print(phase(k)); print(target(k));')[0],
                         ["null", "null", "<div>"])
        for name in ("stop", "stopNow", "refuse", "target", "current", "phase", "detail"):
            for value in ("null", "a", "{}", '"click"'):
                self.fails(name + "(" + value + ");", "no event")

    def test_event_part(self):
        node = Page("<p>a</p>").document.nodes[1]
        event = Event("click", node, "d")
        self.assertEqual([event_part(name, event) for name in ("target", "current", "phase", "detail", "stop", "stopNow", "refuse")],
                         [node, None, None, "d", None, None, None])
        for value in (None, node, "click"):
            with self.assertRaises(RunError) as caught:
                event_part("stop", value)
            self.assertEqual(caught.exception.word, "no event")

    def test_stops_answer_null(self):
        script = 'on(a, "x", function (e) { print([stop(e), stopNow(e), refuse(e)]); }); send(a, "x");'
        self.assertEqual(run(script)[0], ["[null, null, null]"])


class Waiting(Asking):
    def test_later_and_cancel(self):
        page = page_of('function f() { print("f"); } print(later(f, 0)); print(later(f, 99999)); print(cancel(2)); print(cancel(2)); print(cancel(7));')
        self.assertEqual(page.printed, ["1", "2", "true", "false", "false"])
        self.assertEqual(len(page.timers), 1)

    def test_what_cannot_be_cancelled(self):
        self.assertEqual(run('later(function () { }, 1); print(cancel(true)); print(cancel("1")); print(cancel(null)); print(cancel(1));')[0],
                         ["false", "false", "false", "true"])

    def test_numbers_are_not_given_again(self):
        self.assertEqual(run("function f() { } later(f, 1); cancel(1); print(later(f, 1)); print(later(f, 0));")[0], ["2", "3"])

    def test_what_later_and_soon_cannot_be(self):
        for value in ("print", "1", "null"):
            self.fails(f"later({value}, 1);", "no function")
            self.fails(f"soon({value});", "no function")
        for ticks in ("-1", "100000", "null", '"1"', "true", "[]"):
            self.fails(f"later(function () {{ }}, {ticks});", "no time")

    def test_soon(self):
        self.assertEqual(run('print(soon(function () { print("s"); })); print("a");')[0], ["null", "a", "s"])


if __name__ == "__main__":
    unittest.main()
