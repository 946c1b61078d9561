"""Cookies [23]: what is kept of a line, and what is sent to an address."""

import unittest

from pagestack.errors import StoreError
from pagestack.jars import Cookie, Jar, fits_path_of, folder_of, parse_cookie
from pagestack.origins import parse_address

WEB = parse_address("web://x.a.b/c/d")
SAFE = parse_address("safe://x.a.b/c/d")


def fields(cookie):
    """Return all that a cookie has but its number."""
    return (cookie.name, cookie.text, cookie.host, cookie.below, cookie.place, cookie.safe, cookie.until)


def rows(jar):
    """Return (name, text, number) of a jar's cookies."""
    return [(one.name, one.text, one.number) for one in jar.cookies]


class Lines(unittest.TestCase):
    def refuse(self, address, *lines):
        for line in lines:
            with self.assertRaises(StoreError, msg=line):
                parse_cookie(line, address, 0)

    def test_a_cookie(self):
        cookie = Cookie("n", "t", "h", True, "/p", False, 3)
        self.assertEqual((fields(cookie), cookie.number, cookie.identity()), (("n", "t", "h", True, "/p", False, 3), 0, ("h", "/p", "n")))

    def test_lines(self):
        for line, wanted in (("n=t", ("n", "t", "x.a.b", False, "/c", False, None)), ("n=", ("n", "", "x.a.b", False, "/c", False, None)),
                             ("n=t; host a.b", ("n", "t", "a.b", True, "/c", False, None)), ("n=t;host x.a.b", ("n", "t", "x.a.b", True, "/c", False, None)),
                             ("n=t; path /", ("n", "t", "x.a.b", False, "/", False, None)), ("n=t  ;   path /e/f/", ("n", "t", "x.a.b", False, "/e/f/", False, None)),
                             ("n=t; for 0", ("n", "t", "x.a.b", False, "/c", False, 10)), ("n=t; for 25;path /e; host a.b", ("n", "t", "a.b", True, "/e", False, 35))):
            self.assertEqual(fields(parse_cookie(line, WEB, 10)), wanted, line)
        self.assertEqual(fields(parse_cookie("n=t; safe; for 1; host a.b; path /", SAFE, 2)), ("n", "t", "a.b", True, "/", True, 3))
        self.assertEqual(fields(parse_cookie("n=t", SAFE, 2)), ("n", "t", "x.a.b", False, "/c", False, None))

    def test_names_and_texts(self):
        for pair in ("aZ09-_=-_09Za", "-=", "0=1", "a" * 98 + "=b", "a=" + "b" * 98):
            self.assertEqual(fields(parse_cookie(pair, WEB, 0))[:2], tuple(pair.split("=")))
        self.refuse(WEB, "", "=", "a", "=a", "a==", "a=b=c", "a b=c", "a=b c", "a =b", "a= b", "a.b=c", "a=b,c", "a=<", "a=%41", "a=\u00e9", "a=b\n", "a" * 99 + "=b", "a=" + "b" * 99, "; a=b")

    def test_hosts(self):
        for host in ("a.b", "x.a.b"):
            self.assertEqual(parse_cookie("n=t; host " + host, WEB, 0).host, host)
        self.refuse(WEB, "n=t; host b", "n=t; host y.x.a.b", "n=t; host y.a.b", "n=t; host .a.b", "n=t; host", "n=t; host ", "n=t; host  a.b", "n=t; host a.b c", "n=t; host A.B",
                    "n=t; host c.d", "n=t; host x.a.b; host a.b", "n=t; host .b")
        alone = parse_address("web://local/")
        self.assertEqual(fields(parse_cookie("n=t; host local", alone, 0)), ("n", "t", "local", True, "/", False, None))

    def test_wrong_lines(self):
        self.refuse(WEB, "n=t;", "n=t;;path /", "n=t; safe", "n=t; path", "n=t; path a", "n=t; path ", "n=t; path /a b", "n=t; path /; path /", "n=t; for", "n=t; for ", "n=t; for -1",
                    "n=t; for 1.5", "n=t; for x", "n=t; for 1; for 2", "n=t; for 1 2", "n=t; until 3", "n=t; Path /", "n=t; m=u", "n=t; for +1", "n=t; path /\u00e9")
        self.refuse(SAFE, "n=t; safe; safe", "n=t; safe x", "n=t; Safe", "n=t; safe=1")

    def test_folders(self):
        for path, folder in (("/", "/"), ("/a", "/"), ("/a/", "/a"), ("/a/b", "/a"), ("/a/b/c", "/a/b"), ("//", "/"), ("a", "/"), ("", "/")):
            self.assertEqual(folder_of(path), folder, path)

    def test_paths(self):
        for place, path, wanted in (("/", "/", True), ("/", "/a", True), ("/a", "/a", True), ("/a", "/a/", True), ("/a", "/a/b", True), ("/a", "/ab", False), ("/a", "/", False),
                                    ("/a", "/b/a", False), ("/a/", "/a/", True), ("/a/", "/a/b", True), ("/a/", "/a", False), ("/a/", "/ab", False), ("/a/b", "/a", False)):
            self.assertIs(fits_path_of(Cookie("n", "t", "h", False, place, False, None), path), wanted, (place, path))


class Kept(unittest.TestCase):
    def setUp(self):
        self.jar = Jar()

    def put(self, line, address=WEB, time=0):
        self.jar.put(line, address, time)

    def refuse(self, line, address=WEB, time=0):
        before = ([(fields(one), one.number) for one in self.jar.cookies], self.jar.count)
        with self.assertRaises(StoreError):
            self.jar.put(line, address, time)
        self.assertEqual(([(fields(one), one.number) for one in self.jar.cookies], self.jar.count), before)

    def test_a_new_jar(self):
        self.assertEqual((self.jar.cookies, self.jar.count, self.jar.sent(WEB, 0)), ([], 0, ""))

    def test_numbers(self):
        for line in ("a=1", "b=2", "a=3", "c=4"):
            self.put(line)
        self.assertEqual((rows(self.jar), self.jar.count), ([("a", "3", 1), ("b", "2", 2), ("c", "4", 4)], 4))

    def test_one_of_each_host_path_and_name(self):
        for line in ("a=1", "a=2; host x.a.b", "a=3; host a.b", "a=4; path /", "a=5; path /c", "b=6"):
            self.put(line)
        self.assertEqual(rows(self.jar), [("a", "5", 1), ("a", "3", 3), ("a", "4", 4), ("b", "6", 6)])

    def test_for_0_ticks(self):
        self.put("a=1")
        self.put("b=1")
        self.put("a=2; for 0")
        self.put("c=2; for 0")
        self.assertEqual((rows(self.jar), self.jar.count), ([("b", "1", 2)], 4))
        self.put("a=3")
        self.assertEqual(rows(self.jar), [("b", "1", 2), ("a", "3", 5)])

    def test_ends(self):
        self.put("a=1; for 5", time=10)
        self.assertEqual((self.jar.sent(WEB, 14), self.jar.sent(WEB, 15), self.jar.cookies), ("a=1", "", []))
        self.put("b=1; for 5", time=20)
        self.put("c=1", time=25)
        self.assertEqual(rows(self.jar), [("c", "1", 3)])
        self.put("d=1; for 5", time=30)
        self.jar.clean(34)
        self.assertEqual(len(self.jar.cookies), 2)
        self.jar.clean(35)
        self.assertEqual(rows(self.jar), [("c", "1", 3)])

    def test_closing(self):
        self.put("a=1")
        self.put("b=1; for 9")
        self.put("c=1")
        self.jar.close()
        self.assertEqual((rows(self.jar), self.jar.count), ([("b", "1", 2)], 3))

    def test_what_is_refused_changes_nothing(self):
        self.put("a=1; for 3")
        for line in ("", "a", "a=2; safe", "a=2; host b", "a=2; for x"):
            self.refuse(line, WEB, 9)

    def test_what_is_safe_is_not_changed_by_what_is_not(self):
        self.put("a=1; safe", SAFE)
        self.put("b=1", SAFE)
        self.refuse("a=2")
        self.refuse("a=2; for 0")
        self.put("b=2")
        self.put("a=3; path /")
        self.put("a=3; host a.b")
        self.assertEqual([row[:2] for row in rows(self.jar)], [("a", "1"), ("b", "2"), ("a", "3"), ("a", "3")])
        self.put("a=4", SAFE)
        self.put("a=5")
        self.assertEqual(rows(self.jar)[0], ("a", "5", 1))

    def test_a_safe_one_that_has_ended_holds_nothing_off(self):
        self.put("a=1; safe; for 5", SAFE)
        self.refuse("a=2", WEB, 4)
        self.put("a=2", WEB, 5)
        self.assertEqual(rows(self.jar), [("a", "2", 2)])

    def test_twenty_of_a_host(self):
        self.put("z=1; host a.b")
        for number in range(20):
            self.put(f"n{number}=1")
        self.put("n0=2")
        self.assertEqual([row[0] for row in rows(self.jar)], ["z"] + [f"n{number}" for number in range(20)])
        self.put("m=1; path /")
        self.assertEqual([row[0] for row in rows(self.jar)], ["z"] + [f"n{number}" for number in range(1, 20)] + ["m"])
        self.put("n5=1; for 0")
        self.put("o=1")
        self.put("p=1; for 0")
        self.assertEqual([row[0] for row in rows(self.jar)][:3], ["z", "n1", "n2"])
        self.assertEqual(len(self.jar.cookies), 21)

    def test_ended_ones_do_not_count_among_twenty(self):
        self.put("a=1")
        for number in range(19):
            self.put(f"n{number}=1; for 5")
        self.put("b=1", time=5)
        self.assertEqual([row[0] for row in rows(self.jar)], ["a", "b"])


class Sent(unittest.TestCase):
    def sent(self, lines, to, told_by=SAFE, time=0):
        jar = Jar()
        for line in lines:
            jar.put(line, told_by, 0)
        return jar.sent(parse_address(to), time)

    def test_hosts(self):
        lines = ("own=1; path /", "below=1; host x.a.b; path /", "above=1; host a.b; path /")
        for to, wanted in (("web://x.a.b/", "own=1; below=1; above=1"), ("web://x.a.b:99", "own=1; below=1; above=1"), ("web://y.x.a.b/", "below=1; above=1"), ("web://a.b/", "above=1"),
                           ("web://y.a.b/", "above=1"), ("web://b/", ""), ("web://xa.b/", ""), ("web://c.d/", "")):
            self.assertEqual(self.sent(lines, to), wanted, to)

    def test_paths(self):
        lines = ("own=1", "all=1; path /", "deep=1; path /c/d", "end=1; path /c/d/")
        for path, wanted in (("/c/d", "deep=1; own=1; all=1"), ("/c/d/", "end=1; deep=1; own=1; all=1"), ("/c/d/e", "end=1; deep=1; own=1; all=1"), ("/c", "own=1; all=1"), ("/c/", "own=1; all=1"),
                             ("/cd", "all=1"), ("", "all=1"), ("/c/de", "own=1; all=1")):
            self.assertEqual(self.sent(lines, "web://x.a.b" + path), wanted, path)

    def test_safe_ones(self):
        lines = ("a=1; safe", "b=1")
        self.assertEqual(self.sent(lines, "web://x.a.b/c/"), "b=1")
        self.assertEqual(self.sent(lines, "safe://x.a.b/c/"), "a=1; b=1")

    def test_the_order(self):
        lines = ("a=1; path /c", "b=1; path /", "c=1; path /c/", "d=1; path /c", "a=2; path /c", "e=; path /c/")
        self.assertEqual(self.sent(lines, "web://x.a.b/c/"), "c=1; e=; a=2; d=1; b=1")

    def test_ends(self):
        lines = ("a=1; for 5", "b=1; for 6", "c=1")
        self.assertEqual([self.sent(lines, "web://x.a.b/c/", time=time) for time in (4, 5, 6)], ["a=1; b=1; c=1", "b=1; c=1", "c=1"])


if __name__ == "__main__":
    unittest.main()
