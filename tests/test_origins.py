"""Origins [22]: addresses, and who may load and read what."""

import unittest

from pagestack.errors import PolicyError
from pagestack.origins import SORTS, Address, Policy, Shares, Wish, is_below_host, origin_text, parse_address, parse_policy

WEB = parse_address("web://a.b/x")
SAFE = parse_address("safe://a.b/x")


class Addresses(unittest.TestCase):
    def fields(self, text):
        address = parse_address(text)
        return (address.scheme, address.host, address.port, address.place)

    def test_addresses(self):
        for text, fields in (("web://a", ("web", "a", 80, "/")), ("safe://a.b-c.0", ("safe", "a.b-c.0", 443, "/")), ("web://a/", ("web", "a", 80, "/")),
                             ("web://a:8080/b/c?d=e", ("web", "a", 8080, "/b/c?d=e")), ("safe://a:80", ("safe", "a", 80, "/")), ("web://-/~!", ("web", "-", 80, "/~!")),
                             ("web://a//", ("web", "a", 80, "//")), ("web://a/b:c://d", ("web", "a", 80, "/b:c://d")), ("web://a:1/", ("web", "a", 1, "/")),
                             ("web://a:65535", ("web", "a", 65535, "/"))):
            self.assertEqual(self.fields(text), fields, text)

    def test_addresses_that_are_none(self):
        for text in ("", "a", "web", "web:", "web:/", "web:/a", "web//a", "http://a", "WEB://a", " web://a", "web://", "web:///", "web:///a", "web://:80", "web://a..b", "web://.a",
                     "web://a.", "web://A", "web://a_b", "web://a b", "web://a?b", "web://a/b c", "web://a/\n", "web://a/\u007f", "web://a/\u00e9", "web://\u00e9", "://a",
                     "web://a:", "web://a:/", "web://a:0", "web://a:080", "web://a:00", "web://a:65536", "web://a:99999", "web://a:100000", "web://a:000080", "web://a:-1", "web://a:+1",
                     "web://a:1a", "web://a:1:2", "web://a: 1", "web://a:\u0661"):
            with self.assertRaises(PolicyError, msg=text):
                parse_address(text)

    def test_lengths(self):
        text = "web://a/" + "b" * 192
        self.assertEqual(parse_address(text).as_text(), text)
        for long in (text + "b", "web://" + "a" * 195):
            with self.assertRaises(PolicyError):
                parse_address(long)
        self.assertEqual(parse_address("web://" + "a" * 194).host, "a" * 194)

    def test_texts_read_back(self):
        for text in ("web://a/", "safe://a.b/c/d", "web://a:81/", "web://a:443/b", "safe://a:80/~", "safe://a.b.c:65535/?"):
            self.assertEqual(parse_address(text).as_text(), text)
        for text, wanted in (("web://a", "web://a/"), ("web://a:80", "web://a/"), ("safe://a:443/b", "safe://a/b"), ("web://a:80/b", "web://a/b")):
            self.assertEqual(parse_address(text).as_text(), wanted)
            self.assertEqual(self.fields(wanted), self.fields(text))

    def test_origins(self):
        address = Address("web", "a.b", 81, "/c")
        self.assertEqual((address.origin(), address.as_text(), origin_text(address)), (("web", "a.b", 81), "web://a.b:81/c", "web://a.b:81"))
        self.assertEqual((SAFE.origin(), origin_text(SAFE), origin_text(parse_address("safe://a:80/c"))), (("safe", "a.b", 443), "safe://a.b", "safe://a:80"))

    def test_hosts_below(self):
        for host, other, wanted in (("a.b", "a.b", True), ("x.a.b", "a.b", True), ("y.x.a.b", "a.b", True), ("xa.b", "a.b", False), ("a.b", "x.a.b", False), ("b", "a.b", False),
                                    ("a.b.c", "a.b", False)):
            self.assertIs(is_below_host(host, other), wanted, host)


class Policies(unittest.TestCase):
    def may(self, policy, page, address, sort="script"):
        return parse_policy(policy).may_load(sort, parse_address(page), parse_address(address))

    def test_sorts(self):
        self.assertEqual(SORTS, ("script", "style", "image", "frame", "data"))

    def test_policies(self):
        for text, loads in (("script self", {"script": ("self",)}), ("all none; image any *.a.b c.d", {"all": ("none",), "image": ("any", "*.a.b", "c.d")}), ("", {}), (";;", {}),
                            (" ; data  safe ;", {"data": ("safe",)}), ("style self self", {"style": ("self", "self")})):
            self.assertEqual(parse_policy(text).loads, loads, text)

    def test_policies_that_are_none(self):
        for text in ("script", "all", "scripts self", "Script self", "self", "self script", "script self; script any", "all any; all any", "script *", "script *.", "script a..b", "script A",
                     "script a_b", "script *.*.a", "script web://a", "script a:80", "script ..", "script self, any", "script self;; style", "script .a", "script a.*"):
            with self.assertRaises(PolicyError, msg=text):
                parse_policy(text)

    def test_self(self):
        for page, address, wanted in (("web://a/x", "web://a/y", True), ("web://a", "web://a:80", True), ("web://a", "web://a:81", False), ("web://a", "safe://a", False),
                                      ("web://a", "web://b.a", False), ("safe://a", "safe://a", True), ("safe://a:80", "web://a", False), ("safe://a", "web://a", False)):
            self.assertIs(self.may("script self", page, address), wanted, (page, address))

    def test_any_none_and_safe(self):
        for page, address, rules in (("web://a", "web://b", ("any",)), ("web://a", "safe://b", ("any", "safe")), ("safe://a", "safe://b", ("any", "safe")), ("safe://a", "web://b", ()),
                                     ("web://a", "web://a", ("any", "self")), ("safe://a", "safe://a", ("any", "safe", "self"))):
            for rule in ("any", "none", "safe", "self"):
                self.assertIs(self.may("script " + rule, page, address), rule in rules, (page, address, rule))

    def test_hosts(self):
        for rule, host, wanted in (("a.b", "a.b", True), ("a.b", "x.a.b", False), ("a.b", "b", False), ("*.a.b", "x.a.b", True), ("*.a.b", "y.x.a.b", True), ("*.a.b", "a.b", False),
                                   ("*.a.b", "xa.b", False), ("*.b", "a.b", True), ("none.a", "none.a", True)):
            for scheme in ("web", "safe"):
                self.assertIs(self.may("script " + rule, "web://p", scheme + "://" + host + ":99/z"), wanted, rule)
            self.assertIs(self.may("script " + rule, "safe://p", "safe://" + host), wanted, rule)
            self.assertIs(self.may("script " + rule, "safe://p", "web://" + host), False, rule)

    def test_several_rules(self):
        for address, wanted in (("web://c", True), ("web://x.d", True), ("web://d", False), ("web://a", True), ("safe://c", True)):
            self.assertIs(self.may("script none self c *.d", "web://a", address), wanted)

    def test_sorts_that_are_told_and_not_told(self):
        for policy, sort, wanted in (("all none; image any", "image", True), ("all none; image any", "style", False), ("all any; image none", "image", False), ("all any; image none", "data", True),
                                     ("image any", "script", False), ("", "script", False)):
            self.assertIs(self.may(policy, "web://a", "web://b", sort), wanted, (policy, sort))

    def test_a_safe_page_loads_nothing_unsafe(self):
        for sort in SORTS:
            for rules in ("any", "a.b", "self", "*.b"):
                self.assertIs(Policy({"all": (rules,), sort: (rules, "any")}).may_load(sort, SAFE, WEB), False)
                self.assertIs(Policy({sort: (rules, "any")}).may_load(sort, WEB, SAFE), True)

    def test_a_table_of_rules(self):
        rules = {"script": ("self",)}
        policy = Policy(rules)
        rules["all"] = ("any",)
        self.assertEqual(policy.loads, {"script": ("self",)})


class Asking(unittest.TestCase):
    own = parse_address("web://a.b/y")
    other = parse_address("web://c.d/y")

    def test_wishes(self):
        self.assertIs(Wish(WEB, self.own, "GET").is_own(), True)
        for text in ("web://c.d", "safe://a.b", "web://a.b:81", "web://x.a.b"):
            self.assertIs(Wish(WEB, parse_address(text), "GET").is_own(), False)

    def test_what_needs_asking(self):
        for method, heads, wanted in (("GET", (), False), ("HEAD", (), False), ("POST", ("accept", "language"), False), ("PUT", (), True), ("get", (), True), ("GET", ("x",), True),
                                      ("GET", ("accept", "x"), True), ("DELETE", ("accept",), True), ("GET", ("Accept",), True)):
            self.assertIs(Wish(WEB, self.other, method, heads).needs_asking(), wanted, (method, heads))
            self.assertIs(Wish(WEB, self.own, method, heads).needs_asking(), False)
            self.assertIs(Wish(WEB, self.other, method, heads, True).needs_asking(), wanted)

    def test_who_shares(self):
        for origins, page, plain, with_cookies in ((("*",), WEB, True, False), (("web://a.b",), WEB, True, True), (("web://a.b",), SAFE, False, False), (("safe://a.b",), SAFE, True, True),
                                                   (("web://a.b:80",), WEB, False, False), (("web://a.b:81",), parse_address("web://a.b:81"), True, True), ((), WEB, False, False),
                                                   (("web://c", "*"), WEB, True, False), (("*", "web://a.b"), WEB, True, True)):
            for cookies in (False, True):
                shares = Shares(origins, cookies=cookies)
                self.assertIs(shares.cookies, cookies)
                self.assertIs(shares.shares_with(Wish(page, self.other, "GET")), plain, origins)
                self.assertIs(shares.shares_with(Wish(page, self.other, "GET", (), True)), with_cookies and cookies, origins)
                self.assertIs(shares.may_read(Wish(page, self.other, "GET")), plain)
                self.assertIs(shares.may_read(Wish(page, self.other, "PUT", ("x",), True)), with_cookies and cookies)

    def test_the_own_origin_is_always_read(self):
        for wish in (Wish(WEB, self.own, "GET"), Wish(WEB, self.own, "PUT", ("x",), True)):
            self.assertEqual((Shares(()).may_read(wish), Shares(()).may_ask(wish)), (True, True))

    def test_what_may_be_sent_on(self):
        shares = Shares(("web://a.b",), ("PUT",), ("x", "y"))
        for method, heads, wanted in (("GET", (), True), ("PUT", (), True), ("PUT", ("x", "y", "accept"), True), ("GET", ("y",), True), ("POST", ("x",), True), ("DELETE", (), False),
                                      ("PUT", ("z",), False), ("GET", ("x", "z"), False)):
            self.assertIs(shares.may_ask(Wish(WEB, self.other, method, heads)), wanted, (method, heads))
        for wish in (Wish(SAFE, self.other, "PUT"), Wish(WEB, self.other, "PUT", (), True), Wish(SAFE, self.other, "GET", ("x",))):
            self.assertIs(shares.may_ask(wish), False)
        self.assertIs(shares.may_ask(Wish(SAFE, self.other, "GET", ("accept",))), True)
        self.assertIs(Shares(("*",), ("PUT",)).may_ask(Wish(SAFE, self.other, "PUT")), True)
        self.assertIs(Shares(("*",), ("PUT",), (), True).may_ask(Wish(SAFE, self.other, "PUT", (), True)), False)
        self.assertIs(Shares(("safe://a.b",), ("PUT",), (), True).may_ask(Wish(SAFE, self.other, "PUT", (), True)), True)


if __name__ == "__main__":
    unittest.main()
