"""Browsers [16]: pages by address, their history, and what lines answer; and keys [15]."""

import unittest

from pagestack.browser import Browser
from pagestack.errors import MarkupError, PlaceError
from pagestack.page import Page

SITE = {
    "start": '<h1>Start</h1><a id="next" href="next">next</a><a id="self" href="">self</a><a id="no" href="nowhere">no</a><b id="word">word</b>',
    "next": '<p id="p">Next</p><a id="back" href="start?from=next">start</a>',
    "form": '<form id="f" action="next"><input id="n" name="n" value="a b"><input type="hidden" name="h" value="&lt;"><input id="c" type="checkbox" name="c">'
            '<input id="d" type="checkbox" name="d" value="v" checked><input value="unnamed"><button id="s">send</button></form>',
    "own": '<form id="f"><input name="n" value="1"><button id="s">send</button></form>',
    "bad": "<p", "leads": '<script>print("led"); go("next");</script><p>leads</p>', "leadsbad": '<script>go("bad");</script><a id="x" href="bad">x</a>',
    "empty": "", "fault": '<script>nothing;</script><script>let</script><script>print("on");</script>',
    "keys": '<input id="i" value="ab"><input id="j"><b id="b">x</b><script>on(find("i"), "key", function (e) { print("key " + detail(e) + " " + value(target(e)));'
            ' if (detail(e) == "r") { refuse(e); } if (detail(e) == "x") { remove(find("i")); } if (detail(e) == "g") { go("next"); } });'
            ' on(find("i"), "change", function (e) { print("change " + detail(e)); });</script>',
}


def opened(address, width=40, height=20):
    """Return a browser that shows a page of the site."""
    browser = Browser(SITE, width, height)
    browser.enter("open " + address)
    return browser


def addresses(browser):
    """Return the addresses of the history."""
    return [row[0] for row in browser.visits]


class Case(unittest.TestCase):
    def lines(self, browser, *rows):
        """Enter lines and compare their answers; a text stands for an answer of one line."""
        for line, answer in rows:
            self.assertEqual(browser.enter(line), (answer,) if isinstance(answer, str) else answer, line)


class Visits(Case):
    def test_a_new_browser(self):
        browser = Browser(SITE)
        self.assertEqual((browser.width, browser.height, browser.visits, browser.place), (40, 20, [], -1))
        for ask in (browser.shown_page, browser.address):
            with self.assertRaises(PlaceError):
                ask()
        for line in ("back", "ahead", "show", "markup", "printed", "faults", "click 0 0", "press next", "key a", "wait 1", "style word color", "box word"):
            self.assertEqual(browser.enter(line), ("error",))
        self.assertEqual((browser.visits, browser.place), ([], -1))

    def test_opening(self):
        browser = Browser(SITE, 9, 2)
        self.lines(browser, ("open start", "start"), ("open nowhere", "error"), ("open", "error"), ("open ", "error"), ("open  start", "error"), ("open start next", "error"), ("open next", "next"),
                   ("open bad", "error"), ("open empty", "empty"))
        self.assertEqual((addresses(browser), browser.place, browser.address()), (["start", "next", "empty"], 2, "empty"))
        page = browser.shown_page()
        self.assertIsInstance(page, Page)
        self.assertEqual((page.width, page.height), (9, 2))

    def test_what_follows_a_question_mark_counts_for_nothing(self):
        browser = Browser(SITE)
        self.lines(browser, ("open start?", "start?"), ("open next?a=b?c", "next?a=b?c"), ("open nowhere?start", "error"), ("open ?start", "error"), ("press back", "start?from=next"))
        self.assertEqual(browser.shown_page().document.by_id("next").tag, "a")

    def test_back_and_ahead(self):
        browser = opened("start")
        self.lines(browser, ("back", "error"), ("ahead", "error"), ("press next", "next"), ("ahead", "error"), ("back", "start"), ("back", "error"), ("ahead", "next"), ("ahead", "error"),
                   ("back now", "error"), ("back ", "start"), ("ahead 1", "error"), ("press self", "start"), ("ahead", "error"))
        self.assertEqual((addresses(browser), browser.place), (["start", "start"], 1))

    def test_going_to_a_page_forgets_what_was_ahead(self):
        browser = opened("start")
        self.lines(browser, ("open next", "next"), ("open empty", "empty"), ("back", "next"), ("back", "start"), ("open bad", "error"), ("open nowhere", "error"), ("ahead", "next"), ("back", "start"),
                   ("open form", "form"), ("ahead", "error"), ("back", "start"))
        self.assertEqual(addresses(browser), ["start", "form"])

    def test_pages_in_the_history_stay_as_they_were_left(self):
        browser = opened("form")
        first = browser.shown_page()
        self.lines(browser, ("press c", "form"), ("press n", "form"), ("key !", "form"), ("open start", "start"), ("back", "form"), ("show", ("[a b!][x][x][unnamed]send",) + ("",) * 19))
        self.assertIs(browser.shown_page(), first)
        self.lines(browser, ("key ?", "form"), ("open form", "form"), ("show", ("[a b][ ][x][unnamed]send",) + ("",) * 19), ("back", "form"))
        self.assertEqual(first.document.by_id("n").value, "a b!?")

    def test_fifty_one_pages(self):
        browser = Browser(SITE)
        self.lines(browser, *[("open start", "start")] * 51)
        self.assertEqual((len(browser.visits), browser.place), (51, 50))
        self.lines(browser, ("open start", "error"), ("press next", "error"), ("show", browser.enter("show")), ("back", "start"), ("press next", "next"), ("open start", "error"))
        self.assertEqual((len(browser.visits), browser.place), (51, 50))
        for deed in (browser.open_page, browser.go_to):
            with self.assertRaises(PlaceError):
                deed("start")
        browser.go_to("nowhere")
        self.assertEqual((len(browser.visits), browser.place, browser.address()), (51, 50, "next"))

    def test_open_page(self):
        browser = Browser(SITE)
        browser.open_page("start")
        browser.open_page("next?x")
        for address, error in (("nowhere", PlaceError), ("", PlaceError), ("bad", MarkupError)):
            with self.assertRaises(error):
                browser.open_page(address)
        self.assertEqual((addresses(browser), browser.place, browser.address()), (["start", "next?x"], 1, "next?x"))

    def test_go_to(self):
        browser = Browser(SITE)
        browser.go_to("nowhere")
        with self.assertRaises(PlaceError):
            browser.go_to("")
        self.assertEqual(browser.visits, [])
        for wanted, address in (("start", "start"), ("next?a=b", "next?a=b"), ("", "next?a=b"), ("?c=d", "next?c=d"), ("nowhere", "next?c=d"), ("leads", "leads"), ("empty", "empty")):
            browser.go_to(wanted)
            self.assertEqual(browser.address(), address)
        self.assertEqual(addresses(browser), ["start", "next?a=b", "next?a=b", "next?c=d", "leads", "empty"])
        with self.assertRaises(MarkupError):
            browser.go_to("bad")
        self.assertEqual(browser.address(), "empty")


class Followed(Case):
    def test_links(self):
        browser = opened("start")
        self.lines(browser, ("press no", "start"), ("press word", "start"), ("press self", "start"), ("press next", "next"), ("press back", "start?from=next"), ("press self", "start?from=next"))
        self.assertEqual(addresses(browser), ["start", "start", "next", "start?from=next", "start?from=next"])
        self.assertIsNone(browser.visits[0][1].wanted)

    def test_an_address_that_is_not_known_is_not_wanted(self):
        browser = opened("start")
        self.lines(browser, ("press no", "start"))
        self.assertEqual((addresses(browser), browser.shown_page().wanted), (["start"], None))

    def test_a_page_that_goes_elsewhere_from_its_own_script(self):
        browser = opened("leads")
        self.assertEqual((addresses(browser), browser.place), (["leads", "next"], 1))
        self.lines(browser, ("back", "leads"), ("printed", "led"), ("show", ("", "leads") + ("",) * 18), ("wait 1", "leads"), ("ahead", "next"))

    def test_five_in_a_row_and_a_sixth(self):
        site = {str(number): f'<script>go("{number + 1}");</script>' for number in range(7)}
        site["z"] = '<script>go("2");</script>'
        browser = Browser(site)
        self.lines(browser, ("open z", "6"))
        self.assertEqual(addresses(browser), ["z", "2", "3", "4", "5", "6"])
        browser = Browser(site)
        self.lines(browser, ("open 0", "5"))
        self.assertEqual(addresses(browser), ["0", "1", "2", "3", "4", "5"])

    def test_pages_that_go_to_each_other(self):
        browser = Browser({"a": '<script>go("b");</script>', "b": '<script>go("a?x");</script>'})
        self.lines(browser, ("open a", "b"))
        self.assertEqual(addresses(browser), ["a", "b", "a?x", "b", "a?x", "b"])

    def test_a_page_that_goes_to_itself(self):
        browser = Browser({"a": '<script>go("");</script>'})
        self.lines(browser, ("open a?b", "a?b"))
        self.assertEqual(addresses(browser), ["a?b"] * 6)

    def test_a_page_with_a_fault_that_is_wanted(self):
        browser = Browser(SITE)
        self.lines(browser, ("open leadsbad", "error"), ("wait 1", "leadsbad"), ("press x", "error"), ("wait 1", "leadsbad"))
        self.assertEqual(addresses(browser), ["leadsbad"])

    def test_what_a_timer_wants(self):
        browser = Browser({"a": '<script>later(function () { go("b"); }, 5);</script>', "b": "b"})
        self.lines(browser, ("open a", "a"), ("wait 4", "a"), ("wait 1", "b"))

    def test_what_a_listener_wants(self):
        browser = opened("keys")
        self.lines(browser, ("press i", "keys"), ("key g", "next"), ("back", "keys"), ("markup", browser.enter("markup")))


class Forms(Case):
    def test_a_form(self):
        browser = opened("form")
        self.lines(browser, ("press s", "next?n=a+b&h=*60;&d=v"), ("back", "form"), ("press c", "form"), ("press d", "form"), ("press s", "next?n=a+b&h=*60;&c=on"))

    def test_a_form_of_the_page_itself(self):
        browser = opened("own")
        self.lines(browser, ("press s", "own?n=1"), ("press s", "own?n=1"))
        self.assertEqual(addresses(browser), ["own", "own?n=1", "own?n=1"])

    def test_a_form_that_is_refused(self):
        site = dict(SITE)
        site["form"] += '<script>on(find("f"), "submit", function (e) { refuse(e); print("no"); });</script>'
        browser = Browser(site)
        self.lines(browser, ("open form", "form"), ("press s", "form"), ("printed", "no"))


class Clicks(Case):
    def test_cells(self):
        browser = opened("start", 20, 6)
        self.lines(browser, ("show", ("", "START", "", "nextselfnoword", "", "")), ("click 0 3", "next"), ("back", "start"), ("click 3 3", "next"), ("back", "start"), ("click 4 3", "start"),
                   ("click 13 3", "start"), ("click 14 3", "start"))

    def test_cells_without_an_element(self):
        browser = opened("empty", 5, 4)
        self.lines(browser, ("click 0 0", "empty"), ("click 4 3", "empty"))

    def test_cells_outside(self):
        browser = opened("start", 20, 6)
        self.lines(browser, ("click 20 0", "error"), ("click 0 6", "error"), ("click 999 999", "error"), ("click 19 5", "start"))

    def test_numbers(self):
        browser = opened("start", 20, 6)
        for rest in ("", " ", " 1", " 1 2 3", " 1  2", " 1000 0", " 0 1000", " 0001 0", " -1 0", " a 0", " 0 ", " +1 0", " 1.0 0", " \u0661 0"):
            self.assertEqual(browser.enter("click" + rest), ("error",), rest)
        self.lines(browser, ("click 000 003", "next"))
        for rest in ("", " ", " 1000", " 0001", " -1", " a", " 1 2", "  1"):
            self.assertEqual(browser.enter("wait" + rest), ("error",), rest)
        self.lines(browser, ("wait 999", "next"), ("wait 0", "next"), ("wait 007", "next"))
        self.assertEqual(browser.shown_page().time, 1006)

    def test_ids(self):
        browser = opened("start")
        for line in ("press", "press ", "press none", "press next ", "press next word", "box", "box none", "box ", "style", "style next", "style none color", "style  color", "style next color x",
                     "style next color "):
            self.assertEqual(browser.enter(line), ("error",), line)

    def test_a_window_that_is_too_great(self):
        browser = opened("start", 300, 300)
        self.lines(browser, ("show", "error"), ("click 0 0", "error"), ("box word", "none"), ("press next", "next"))


class Keys(Case):
    def test_signs(self):
        browser = opened("keys")
        self.lines(browser, ("press i", "keys"), ("key c d", "keys"), ("printed", ("key c ab", "change abc", "key   abc", "change abc ", "key d abc ", "change abc d")), ("key <<<", "keys"),
                   ("show", ("[ab][]x",) + ("",) * 19))
        self.assertIs(browser.shown_page().focus, browser.shown_page().document.by_id("i"))

    def test_without_signs(self):
        browser = opened("keys")
        self.lines(browser, ("press i", "keys"), ("key", "error"), ("key ", "error"), ("key  ", "keys"))
        self.assertEqual(browser.shown_page().document.by_id("i").value, "ab ")

    def test_without_a_focus(self):
        browser = opened("keys")
        self.lines(browser, ("key c", "keys"), ("press i", "keys"), ("press b", "keys"), ("key c", "keys"), ("printed", ()))

    def test_a_focus_that_was_taken_out_of_the_tree(self):
        browser = opened("keys")
        self.lines(browser, ("press i", "keys"), ("key xyz", "keys"), ("printed", ("key x ab", "change abx")))
        self.assertEqual(browser.shown_page().document.by_id("i"), None)
        self.assertEqual(browser.shown_page().focus.value, "abx")

    def test_a_hundred_signs(self):
        browser = opened("keys")
        node = browser.shown_page().document.by_id("i")
        node.value = "v" * 99
        self.lines(browser, ("press i", "keys"), ("key ab", "keys"), ("printed", ("key a " + "v" * 99, "change " + "v" * 99 + "a", "key b " + "v" * 99 + "a")))
        self.assertEqual(node.value, "v" * 99 + "a")
        self.lines(browser, ("key <b", "keys"))
        self.assertEqual(node.value, "v" * 99 + "b")
        node.value = "v" * 102
        self.lines(browser, ("key <", "keys"))
        self.assertEqual(node.value, "v" * 102)

    def test_nothing_to_lose(self):
        browser = opened("keys")
        self.lines(browser, ("press j", "keys"), ("key <a<<", "keys"), ("show", ("[ab][]x",) + ("",) * 19))
        self.lines(browser, ("press i", "keys"), ("key <<<", "keys"), ("printed", ("key < ab", "change a", "key < a", "change ", "key < ", "change ")))

    def test_keys_that_are_refused(self):
        browser = opened("keys")
        self.lines(browser, ("press i", "keys"), ("key arb", "keys"), ("printed", ("key a ab", "change aba", "key r aba", "key b aba", "change abab")))


class Questions(Case):
    def test_show(self):
        browser = Browser({"a": "<pre> a  \n\n b </pre>c"}, 6, 5)
        self.lines(browser, ("open a", "a"), ("show", (" a", "", " b", "c", "")), ("show ", (" a", "", " b", "c", "")), ("show all", "error"), (" show", "error"), ("Show", "error"))

    def test_markup(self):
        browser = Browser({"a": '<p b="&lt;" a>x &amp; y<br><!-- z --></p>'})
        self.lines(browser, ("open a", "a"), ("markup", '<html><p a="" b="&lt;">x &amp; y<br></p></html>'), ("markup x", "error"))

    def test_printed_and_faults(self):
        browser = opened("fault")
        self.lines(browser, ("printed", "on"), ("faults", ("unknown name", "no script")), ("printed x", "error"), ("faults x", "error"), ("open start", "start"), ("printed", ()), ("faults", ()))

    def test_style(self):
        browser = Browser({"a": '<style>#x { color: red; width: 50pc; margin: 1 auto; --n: 3; z-index: -2; left: -4; height: 7 } @width (max 9) { #x { grow: 2 } }</style>'
                                '<pre id="x"><b id="y">t</b></pre><h1 id="h"></h1><hr id="r"><script id="s"></script>'}, 9, 5)
        self.lines(browser, ("open a", "a"))
        for line, text in (("x color", "red"), ("y color", "red"), ("x width", "50pc"), ("x margin-top", "1"), ("x margin-left", "auto"), ("x z-index", "-2"), ("x left", "-4"), ("x height", "7"), ("x grow", "2"),
                           ("x display", "block"), ("y display", "inline"), ("y white-space", "pre"), ("y width", "auto"), ("h text-transform", "upper"), ("h margin-bottom", "1"), ("r background", "grey"),
                           ("r height", "1"), ("s display", "none"), ("y background", "none"), ("y max-width", "auto"), ("y order", "0")):
            self.lines(browser, ("style " + line, text))
        for line in ("x --n", "x margin", "x names", "x colour", "x Color", "x", "x color red", "n color"):
            self.lines(browser, ("style " + line, "error"))

    def test_box(self):
        browser = Browser({"a": '<div id="x" style="margin: 1 2; border: 1; width: 5">ab<b id="y">c</b></div><p id="z" style="display: none">d</p><i id="w" style="position: absolute; left: -3; top: 9">e</i>'})
        self.lines(browser, ("open a", "a"), ("box x", "2 1 7 3"), ("box y", "none"), ("box z", "none"), ("box w", "-3 9 1 1"))

    def test_other_lines(self):
        browser = opened("start")
        for line in ("", " ", "go next", "next", "OPEN next", "reload", "open\tnext", "press", "error"):
            self.assertEqual(browser.enter(line), ("error",), line)
        self.assertEqual(addresses(browser), ["start"])

    def test_limits_of_steps_and_depth(self):
        site = {"a": '<b id="x">x</b><script>function f(n) { return f(n + 1); } on(find("x"), "click", function (e) { while (true) { } }); try { f(0); } catch (e) { print("no"); }</script>'}
        browser = Browser(site)
        self.lines(browser, ("open a", "a"), ("faults", "too deep"), ("press x", "a"), ("faults", ("too deep", "too many steps")), ("printed", ()))


if __name__ == "__main__":
    unittest.main()
