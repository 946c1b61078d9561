"""Pages [1] [9] [14] [15]: scripts as tasks, events, clicks, forms, timers, and when a page is laid out anew."""

import unittest

from pagestack.errors import MarkupError
from pagestack.page import Page, coded, form_rows


def page_of(markup, script=""):
    """Return a page with a script behind its markup, which may print by a short name."""
    return Page(markup + "<script>function p(v) { print(v); } " + script + "</script>")


def clicked(markup, script, name):
    """Return a page on whose element of an id was clicked."""
    page = page_of(markup, script)
    page.click(page.document.by_id(name))
    return page


class Making(unittest.TestCase):
    def test_a_new_page(self):
        page = Page("<p>a</p>")
        self.assertEqual((page.width, page.height, page.printed, page.faults, page.time, page.timers, page.layouts), (40, 20, [], [], 0, [], 0))
        self.assertEqual((page.focus, page.wanted), (None, None))
        self.assertEqual(page.document.root.shown(), ("html", (), (("p", (), ("a",)),)))
        page = Page("", 7, 3)
        self.assertEqual((page.width, page.height), (7, 3))

    def test_no_markup(self):
        for text in ("<p", "</p>", "<html>", "<script>"):
            with self.assertRaises(MarkupError):
                Page(text)

    def test_styles(self):
        markup = "<style>p { width: 4 } </style><div><style>p { width: 5 }</style></div><p>x</p>"
        self.assertEqual(Page(markup).laid_out()[1].children[1].width, 5)

    def test_a_style_that_is_none(self):
        markup = "<style>p { width: 4 }</style><style>p { width: 5 } p { none }</style><style></style><p>x</p>"
        page = Page(markup)
        self.assertEqual((page.laid_out()[1].children[0].width, page.faults), (4, []))


class Tasks(unittest.TestCase):
    def test_scripts_in_order(self):
        page = Page('<script>print(1); print(find("a"));</script><div><script>print(2);</script></div><script></script><p id="a"></p><script>print(3);</script>')
        self.assertEqual((page.printed, page.faults), (["1", "<p>", "2", "3"], []))

    def test_no_script(self):
        self.assertEqual((Page("<p>a</p>").printed, Page("<p>a</p>").faults), ([], []))

    def test_faults_end_their_task_alone(self):
        page = Page("<script>print(1); nothing; print(2);</script><script>print(</script><script>print(3); throw 1;</script><script>print(4);</script>")
        self.assertEqual((page.printed, page.faults), (["1", "3", "4"], ["unknown name", "no script", "thrown"]))

    def test_what_was_put_off_runs_behind_the_task(self):
        page = Page('<script>soon(function () { print("s"); }); soon(function () { print("t"); }); print(1);</script><script>print(2);</script>')
        self.assertEqual(page.printed, ["1", "s", "t", "2"])

    def test_soon_within_soon(self):
        page = Page('<script>soon(function () { print("a"); soon(function () { print("c"); }); print("b"); }); soon(function () { print("x"); });</script>')
        self.assertEqual(page.printed, ["a", "b", "x", "c"])

    def test_soon_behind_a_fault(self):
        page = Page('<script>soon(function () { print(1); 1 / 0; }); soon(function () { print(2); }); nothing;</script>')
        self.assertEqual((page.printed, page.faults), (["1", "2"], ["unknown name", "division by zero"]))

    def test_arguments_of_what_is_put_off(self):
        self.assertEqual(Page("<script>soon(function (v) { print(v); });</script>").printed, ["null"])

    def test_each_that_is_put_off_has_steps_of_its_own(self):
        loop = "let i = 0; while (i < 2000) { i = i + 1; } print(i);"
        page = Page("<script>function f() { " + loop + " } soon(f); soon(f); " + loop + "</script>")
        self.assertEqual((page.printed, page.faults), (["2000"] * 3, []))

    def test_at_most_100_run_behind_a_task(self):
        script = "let n = 0; function f() { n = n + 1; soon(f); } soon(f);"
        page = Page("<script>" + script + "</script><script>print(n);</script><script>print(n);</script>")
        self.assertEqual(page.printed, ["100", "200"])
        script = "let n = 0; function f() { n = n + 1; } let i = 0; while (i < 101) { soon(f); i = i + 1; }"
        page = Page("<script>" + script + "</script><script>print(n);</script><script>print(n);</script>")
        self.assertEqual(page.printed, ["100", "101"])


class Timers(unittest.TestCase):
    def test_timers_run_by_their_times(self):
        page = page_of("", 'function f(n) { return function () { print(n); }; } later(f(3), 3); later(f(1), 1); later(f(2), 2); later(f(9), 9);')
        self.assertEqual((page.printed, len(page.timers)), ([], 4))
        page.wait(2)
        self.assertEqual((page.printed, page.time, len(page.timers)), (["1", "2"], 2, 2))
        page.wait(1)
        self.assertEqual((page.printed, page.time), (["1", "2", "3"], 3))
        page.wait(5)
        self.assertEqual((page.printed, page.time), (["1", "2", "3"], 8))
        page.wait(100)
        self.assertEqual((page.printed, page.time, page.timers), (["1", "2", "3", "9"], 108, []))

    def test_timers_of_one_time_run_as_they_were_made(self):
        page = page_of("", 'function f(n) { return function () { print(n); }; } later(f("a"), 5); later(f("b"), 4); later(f("c"), 5); later(f("d"), 4);')
        page.wait(5)
        self.assertEqual(page.printed, ["b", "d", "a", "c"])

    def test_a_timer_without_ticks(self):
        page = page_of("", "later(function (v) { print(v); }, 0); print(1);")
        self.assertEqual(page.printed, ["1"])
        page.wait(0)
        self.assertEqual(page.printed, ["1", "null"])

    def test_a_timer_that_makes_a_timer(self):
        script = 'later(function () { print("a"); later(function () { print("b"); }, 2); later(function () { print("d"); }, 9); }, 3); later(function () { print("c"); }, 6);'
        page = page_of("", script)
        page.wait(10)
        # The second one is due at 3 + 2, the last one at 3 + 9.
        self.assertEqual((page.printed, page.time), (["a", "b", "c"], 10))
        page.wait(1)
        self.assertEqual(page.printed, ["a", "b", "c"])
        page.wait(1)
        self.assertEqual(page.printed, ["a", "b", "c", "d"])

    def test_at_most_1000_in_one_wait(self):
        page = page_of("", "let n = 0; function f() { n = n + 1; later(f, 0); } later(f, 1); later(function () { print(n); }, 3);")
        page.wait(2)
        self.assertEqual((page.time, page.printed, len(page.timers)), (2, [], 2))
        page.click(page.document.root)
        page.wait(0)
        self.assertEqual(page.time, 2)
        page = page_of("", "let n = 0; function f() { n = n + 1; } " + "later(f, 0); " * 1001 + " later(function () { print(n); }, 5);")
        page.wait(0)
        self.assertEqual(len(page.timers), 2)
        page.wait(5)
        self.assertEqual((page.printed, page.timers), (["1001"], []))

    def test_each_timer_is_a_task(self):
        script = 'later(function () { soon(function () { print("s"); }); print(1); nothing; }, 1); later(function () { print(2); }, 1);'
        page = page_of("", script)
        page.wait(1)
        self.assertEqual((page.printed, page.faults), (["1", "s", "2"], ["unknown name"]))

    def test_timers_that_are_cancelled(self):
        page = page_of("", 'let n = later(function () { print("n"); }, 5); later(function () { print(cancel(n)); print(cancel(2)); }, 3);')
        page.wait(9)
        self.assertEqual(page.printed, ["true", "false"])


class Events(unittest.TestCase):
    MARKUP = '<div id="o"><p id="i"><b id="b">x</b></p></div>'

    def test_the_way_of_a_click(self):
        script = ('for (n in ["o", "i", "b"]) { let e = find(n); on(e, "click", function (v) { print(n + phase(v)); }); '
                  'on(e, "click", function (v) { print(n + phase(v) + "!"); }, true); }')
        self.assertEqual(clicked(self.MARKUP, script, "b").printed,
                         ["ocapture!", "icapture!", "btarget!", "btarget", "ibubble", "obubble"])

    def test_stops(self):
        base = ('function say(w) { return function (e) { print(w); }; } on(find("o"), "click", say("o!"), true); on(find("o"), "click", say("o")); '
                'on(find("i"), "click", say("i!"), true); on(find("i"), "click", function (e) { print("i"); STOP(e); }); on(find("i"), "click", say("j"));'
                'on(find("b"), "click", say("b"));')
        self.assertEqual(clicked(self.MARKUP, base.replace("STOP", "stop"), "b").printed, ["o!", "i!", "b", "i", "j"])
        self.assertEqual(clicked(self.MARKUP, base.replace("STOP", "stopNow"), "b").printed, ["o!", "i!", "b", "i"])
        self.assertEqual(clicked(self.MARKUP, base.replace("STOP", "refuse"), "b").printed, ["o!", "i!", "b", "i", "j", "o"])

    def test_listeners_that_change_meanwhile(self):
        script = ('let b = find("b"); function f(e) { print("f"); off(b, "click", f); off(b, "click", g); on(b, "click", h); on(find("i"), "click", h); } '
                  'function g(e) { print("g"); } function h(e) { print("h"); } on(b, "click", f); on(b, "click", g);')
        page = clicked(self.MARKUP, script, "b")
        self.assertEqual(page.printed, ["f", "h"])
        page.click(page.document.by_id("b"))
        self.assertEqual(page.printed, ["f", "h", "h", "h"])

    def test_once(self):
        page = clicked(self.MARKUP, 'once(find("b"), "click", function (e) { print("x"); });', "b")
        page.click(page.document.by_id("b"))
        self.assertEqual(page.printed, ["x"])

    def test_a_fault_ends_its_listener_alone(self):
        script = 'on(find("b"), "click", function (e) { print(1); nothing; print(2); }); on(find("o"), "click", function (e) { print(3); throw 4; });'
        page = clicked(self.MARKUP, script, "b")
        self.assertEqual((page.printed, page.faults), (["1", "3"], ["unknown name", "thrown"]))

    def test_a_fault_of_a_listener_does_not_end_who_sends(self):
        script = 'on(find("b"), "x", function (e) { nothing; }); try { print(send(find("b"), "x")); } catch (e) { print(e); } print("on");'
        page = page_of(self.MARKUP, script)
        self.assertEqual((page.printed, page.faults), (["true", "on"], ["unknown name"]))

    def test_faults_of_listeners_leave_no_depth(self):
        script = 'on(find("b"), "x", function (e) { [[[[[nothing]]]]]; }); let i = 0; while (i < 50) { i = i + 1; send(find("b"), "x"); } print(i);'
        page = page_of(self.MARKUP, script)
        self.assertEqual((page.printed, page.faults), (["50"], ["unknown name"] * 50))

    def test_a_refusal_stays_behind_a_fault(self):
        script = 'on(find("b"), "x", function (e) { refuse(e); nothing; }); print(send(find("b"), "x"));'
        self.assertEqual(page_of(self.MARKUP, script).printed, ["false"])

    def test_events_that_listeners_send(self):
        script = ('let b = find("b"); on(b, "click", function (e) { print("a"); send(find("i"), "note", "n"); print("c"); }); '
                  'on(find("i"), "note", function (e) { print(detail(e) + phase(e)); }); on(find("o"), "note", function (e) { print(phase(e)); }); '
                  'on(find("o"), "click", function (e) { print("d"); });')
        self.assertEqual(clicked(self.MARKUP, script, "b").printed, ["a", "ntarget", "bubble", "c", "d"])

    def test_kinds_without_a_way_up(self):
        script = 'on(find("o"), "x", function (e) { print("up"); }); on(find("o"), "x", function (e) { print("down"); }, true); send(find("b"), "x"); send(find("b"), "key");'
        self.assertEqual(page_of(self.MARKUP, script).printed, ["down"])

    def test_listeners_that_send_to_themselves(self):
        script = 'on(find("b"), "x", function (e) { print(1); send(find("b"), "x"); }); send(find("b"), "x"); print("end");'
        page = page_of(self.MARKUP, script)
        self.assertEqual(page.faults, ["too deep"])
        self.assertEqual(page.printed[-1], "end")

    def test_soon_runs_behind_the_event(self):
        script = ('on(find("b"), "click", function (e) { soon(function () { print("s"); }); print("b"); }); on(find("o"), "click", function (e) { print("o"); });')
        self.assertEqual(clicked(self.MARKUP, script, "b").printed, ["b", "o", "s"])

    def test_listeners_of_one_event_share_their_steps(self):
        loop = "function (e) { let i = 0; while (i < 2000) { i = i + 1; } print(i); }"
        page = clicked(self.MARKUP, f'on(find("b"), "click", {loop}); on(find("o"), "click", {loop});', "b")
        self.assertEqual((page.printed, page.faults), (["2000"], ["too many steps"]))

    def test_each_click_has_steps_of_its_own(self):
        page = page_of(self.MARKUP, 'on(find("b"), "click", function (e) { let i = 0; while (i < 2000) { i = i + 1; } print(i); });')
        page.click(page.document.by_id("b"))
        page.click(page.document.by_id("b"))
        self.assertEqual((page.printed, page.faults), (["2000", "2000"], []))


class Clicks(unittest.TestCase):
    def test_a_checkbox(self):
        markup = '<input id="c" type="checkbox">'
        script = ('on(find("c"), "click", function (e) { print(len(all(":checked"))); }); on(find("c"), "change", function (e) { print(detail(e)); }); '
                  'on(parent(find("c")), "change", function (e) { print(phase(e)); });')
        page = clicked(markup, script, "c")
        self.assertIs(page.document.by_id("c").checked, True)
        page.click(page.document.by_id("c"))
        self.assertIs(page.document.by_id("c").checked, False)
        self.assertEqual(page.printed, ["1", "on", "bubble", "0", "off", "bubble"])

    def test_a_checkbox_that_is_refused(self):
        for mark in ("", " checked"):
            markup = f'<input id="c" type="checkbox"{mark}>'
            script = ('on(find("c"), "click", function (e) { print(len(all(":checked"))); refuse(e); }); '
                      'on(find("c"), "change", function (e) { print(detail(e)); });')
            page = clicked(markup, script, "c")
            self.assertEqual((page.document.by_id("c").checked, page.printed), (mark != "", ["0" if mark else "1"]))

    def test_a_link(self):
        page = clicked('<a id="a" href="there?x=1">x</a>', "", "a")
        self.assertEqual(page.wanted, "there?x=1")
        self.assertIsNone(clicked('<a id="a">x</a>', "", "a").wanted)
        self.assertEqual(clicked('<a id="a" href>x</a>', "", "a").wanted, "")
        self.assertIsNone(clicked('<b id="a" href="x">x</b>', "", "a").wanted)

    def test_a_link_that_is_refused(self):
        page = clicked('<div id="o"><a id="a" href="there">x</a></div>', 'on(find("o"), "click", function (e) { refuse(e); });', "a")
        self.assertIsNone(page.wanted)

    def test_a_click_inside_a_link(self):
        self.assertEqual(clicked('<a href="there"><p><b id="b">x</b></p></a>', "", "b").wanted, "there")
        self.assertEqual(clicked('<a href="far"><p><a href="near"><b id="b">x</b></a></p></a>', "", "b").wanted, "near")
        self.assertEqual(clicked('<a href="far"><a><b id="b">x</b></a></a>', "", "b").wanted, "far")

    def test_buttons_and_submits(self):
        form = '<form id="f" action="to"><input name="n" value="v">{}</form>'
        for inner in ('<button id="x">go</button>', '<input id="x" type="submit">', '<button><b id="x">go</b></button>',
                      '<a href="far"><button id="x">go</button></a>'):
            page = clicked(form.format(inner), 'on(find("f"), "submit", function (e) { print(tag(target(e)) + phase(e) + detail(e)); });', "x")
            self.assertEqual((page.wanted, page.printed), ("to?n=v", ["formtarget"]), inner)

    def test_the_nearest_acts_alone(self):
        page = clicked('<form action="to"><button><a href="there" id="x">go</a></button></form>', "", "x")
        self.assertEqual(page.wanted, "there")

    def test_a_submit_that_is_refused(self):
        markup = '<div id="o"><form id="f" action="to"><button id="x">go</button></form></div>'
        page = clicked(markup, 'on(find("o"), "submit", function (e) { print(phase(e)); refuse(e); });', "x")
        self.assertEqual((page.wanted, page.printed), (None, ["bubble"]))
        page = clicked(markup, 'on(find("f"), "click", function (e) { refuse(e); }); on(find("f"), "submit", function (e) { print(1); });', "x")
        self.assertEqual((page.wanted, page.printed), (None, []))

    def test_no_form_around(self):
        page = clicked('<form></form><button id="x">go</button>', "", "x")
        self.assertIsNone(page.wanted)

    def test_the_nearest_form(self):
        page = clicked('<form action="far"><div><form action="near"><button id="x">go</button></form></div></form>', "", "x")
        self.assertEqual(page.wanted, "near?")

    def test_a_form_without_an_action(self):
        self.assertEqual(clicked('<form><input name="a" value="b"><button id="x"></button></form>', "", "x").wanted, "?a=b")

    def test_a_form_is_read_behind_the_submit(self):
        markup = '<form id="f" action="to"><input id="n" name="n" value="v"><button id="x">go</button></form>'
        page = clicked(markup, 'on(find("f"), "submit", function (e) { setValue(find("n"), "a b&c"); });', "x")
        self.assertEqual(page.wanted, "to?n=a+b*38;c")

    def test_the_focus(self):
        page = Page('<input id="t"><input id="u" type="text"><input id="c" type="checkbox"><p id="p">x</p><input id="h" type="hidden">')
        for name, wanted in (("t", "t"), ("p", None), ("u", "u"), ("t", "t"), ("c", None), ("t", "t"), ("h", None)):
            page.click(page.document.by_id(name))
            found = None if page.focus is None else page.focus.attribute("id")
            self.assertEqual(found, wanted)

    def test_the_focus_stays_if_a_click_is_refused(self):
        page = page_of('<input id="t"><input id="u"><p id="p">x</p>', 'on(find("p"), "click", function (e) { refuse(e); }); on(find("u"), "click", function (e) { refuse(e); });')
        for name in ("t", "p", "u"):
            page.click(page.document.by_id(name))
            self.assertEqual(page.focus.attribute("id"), "t")

    def test_the_focus_stays_if_something_acts(self):
        page = Page('<input id="t"><a href="x" id="a">a</a><a href="y"><input id="u"></a>')
        for name in ("t", "a", "u"):
            page.click(page.document.by_id(name))
            self.assertEqual(page.focus.attribute("id"), "t")
        self.assertEqual(page.wanted, "y")

    def test_a_checkbox_in_a_link_does_both(self):
        page = clicked('<a href="there"><input id="c" type="checkbox"></a>', 'on(find("c"), "change", function (e) { print(detail(e)); });', "c")
        self.assertEqual((page.wanted, page.printed), ("there", ["on"]))

    def test_soon_runs_behind_each_event_of_a_click(self):
        script = 'let c = find("c"); on(c, "click", function (e) { soon(function () { print("s"); }); print("click"); }); on(c, "change", function (e) { print("change"); });'
        self.assertEqual(clicked('<input id="c" type="checkbox">', script, "c").printed, ["click", "s", "change"])

    def test_an_event_that_a_script_sends_does_nothing_else(self):
        page = page_of('<a id="a" href="there">x</a><input id="c" type="checkbox">', 'send(find("a"), "click"); send(find("c"), "click");')
        self.assertEqual((page.wanted, page.document.by_id("c").checked), (None, False))


class Forms(unittest.TestCase):
    def test_form_rows(self):
        page = Page('<form id="f"><input name="a" value="1"><p><input name="b" type="hidden" value="2"></p><input name="c" type="checkbox" value="3" checked>'
                    '<input name="d" type="checkbox" checked><input name="e" type="checkbox" value="5"><input name="g" type="submit" value="6">'
                    '<input value="7"><input name="" value="8"><b name="h"></b><input name="a" type="text" value=""></form><input name="z">')
        rows = form_rows(page.document.by_id("f"))
        self.assertEqual(rows, [("a", "1"), ("b", "2"), ("c", "3"), ("d", "on"), ("a", "")])

    def test_form_rows_are_those_of_now(self):
        page = Page('<form id="f"><input id="a" name="a" value="1"><input id="b" name="b" type="checkbox"></form>')
        page.document.by_id("a").value = "x y"
        page.click(page.document.by_id("b"))
        self.assertEqual(form_rows(page.document.by_id("f")), [("a", "x y"), ("b", "on")])
        self.assertEqual(form_rows(Page("<form></form>").document.nodes[1]), [])

    def test_coded(self):
        self.assertEqual(coded("aZ09"), "aZ09")
        self.assertEqual(coded("a b  c"), "a+b++c")
        self.assertEqual(coded("a=b&c*d+;"), "a*61;b*38;c*42;d*43;*59;")
        self.assertEqual(coded("\n-_.%"), "*10;*45;*95;*46;*37;")
        self.assertEqual(coded(""), "")

    def test_names_are_coded_too(self):
        page = clicked('<form action="to"><input name="a b" value="&amp;"><input name="c" value="d"><button id="x"></button></form>', "", "x")
        self.assertEqual(page.wanted, "to?a+b=*38;&c=d")


class Layouts(unittest.TestCase):
    def test_a_page_is_laid_out_when_it_is_asked_for(self):
        page = Page("<p>a</p>")
        self.assertEqual(page.layouts, 0)
        styles, root = page.laid_out()
        self.assertEqual((root.node.number, sorted(styles), page.layouts), (0, [0, 1], 1))
        page.painted()
        self.assertIs(page.laid_out()[1], root)
        self.assertEqual(page.layouts, 1)

    def test_the_tree(self):
        page = page_of('<p id="p">a</p>', 'on(find("p"), "click", function (e) { print(1); }); on(find("p"), "note", function (e) { setText(find("p"), "b"); });')
        page.painted()
        page.click(page.document.by_id("p"))
        page.painted()
        self.assertEqual(page.layouts, 1)
        page.document.set_attribute(page.document.by_id("p"), "class", "x")
        page.painted()
        self.assertEqual(page.layouts, 2)
        page.document.set_text(page.document.by_id("p"), "new")
        self.assertEqual(page.painted().letter_rows()[1][:4], "new ")
        self.assertEqual(page.layouts, 3)
        page.document.remove(page.document.by_id("p"))
        page.painted()
        page.painted()
        self.assertEqual(page.layouts, 4)

    def test_values(self):
        page = Page('<input id="t" value="a"><input id="c" type="checkbox">')
        self.assertEqual(page.painted().letter_rows()[0][:6], "[a][ ]")
        page.click(page.document.by_id("c"))
        self.assertEqual(page.painted().letter_rows()[0][:6], "[a][x]")
        self.assertEqual(page.layouts, 2)
        page.click(page.document.by_id("t"))
        page.painted()
        self.assertEqual(page.layouts, 2)
        page.document.by_id("t").value = "bc"
        self.assertEqual(page.painted().letter_rows()[0][:7], "[bc][x]")
        self.assertEqual(page.layouts, 3)

    def test_values_that_scripts_set(self):
        page = page_of('<input id="t" value="a">', 'on(find("t"), "click", function (e) { setValue(target(e), value(target(e)) + "!"); });')
        page.painted()
        page.click(page.document.by_id("t"))
        self.assertEqual(page.painted().letter_rows()[0][:4], "[a!]")
        self.assertEqual(page.layouts, 2)

    def test_the_window(self):
        page = Page("<style>p { color: red } @width (max 20) { p { color: blue } }</style><p>a b c</p>")
        self.assertEqual(page.painted().cell(0, 1)[1], "red")
        page.resize(40, 20)
        page.painted()
        self.assertEqual(page.layouts, 1)
        page.resize(20, 20)
        self.assertEqual((page.width, page.height, page.layouts), (20, 20, 1))
        self.assertEqual(page.painted().cell(0, 1)[1], "blue")
        self.assertEqual(page.layouts, 2)
        page.resize(20, 5)
        self.assertEqual(len(page.painted().letter_rows()), 5)
        self.assertEqual(page.layouts, 3)
        page.resize(1, 5)
        self.assertEqual(page.painted().letter_rows(), (" ", "a", "b", "c", " "))
        page.resize(1, 5)
        page.painted()
        self.assertEqual(page.layouts, 4)

    def test_boxes_that_scripts_ask_for(self):
        page = page_of('<p id="p">a</p>', 'let p = find("p"); print(box(p)); box(p); set(p, "style", "width: 3"); print(box(p)); print(box(p));')
        self.assertEqual((page.printed, page.layouts), (["[0, 1, 40, 1]", "[0, 1, 3, 1]", "[0, 1, 3, 1]"], 2))


class Deep(unittest.TestCase):
    def test_a_tree_of_100_levels(self):
        script = 'let e = make("div"); setText(e, "x"); let i = 0; while (i < 97) { let o = make("div"); append(o, e); e = o; i = i + 1; } append(parent(find("a")), e);'
        for display in ("block", "flex", "inline"):
            page = Page("<style>div { display: " + display + '; border: 0 }</style><b id="a"></b><script>' + script + "print(box(find(\"a\")));</script>", 9, 3)
            self.assertEqual(page.faults, [])
            self.assertEqual(page.painted().letter_rows()[0], "x        ")


if __name__ == "__main__":
    unittest.main()
