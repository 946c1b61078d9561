"""Shelves [24]: what pages keep, changed whole or not at all, and what they are told."""

import unittest

from pagestack.errors import StoreError
from pagestack.shelves import Change, Shelf


class Shelves(unittest.TestCase):
    def setUp(self):
        self.shelf = Shelf()
        for page in ("a", "b"):
            self.shelf.open_page(page)

    def change(self, page, *rows):
        """Make a whole change; return whether it was kept."""
        self.shelf.begin(page)
        for key, text in rows:
            self.shelf.set_row(page, key, text)
        return self.shelf.commit(page)

    def refuse(self, deed, *arguments):
        before = (dict(self.shelf.rows), list(self.shelf.listening), self.shelf.change, None if self.shelf.change is None else dict(self.shelf.change.rows))
        with self.assertRaises(StoreError):
            deed(*arguments)
        self.assertEqual((self.shelf.rows, self.shelf.listening, self.shelf.change, None if self.shelf.change is None else self.shelf.change.rows), before)

    def test_new_ones(self):
        shelf = Shelf()
        self.assertEqual((shelf.rows, shelf.listening, shelf.change, Change("a").rows, Change("a").page), ({}, [], None, {}, "a"))

    def test_opening_and_closing(self):
        self.assertEqual(self.shelf.listening, ["a", "b"])
        self.refuse(self.shelf.open_page, "a")
        self.shelf.close_page("a")
        self.assertEqual(self.shelf.listening, ["b"])
        self.refuse(self.shelf.close_page, "a")
        self.shelf.open_page("a")
        self.assertEqual((self.shelf.listening, self.shelf.need("a")), (["b", "a"], None))

    def test_calls_of_a_page_that_is_not_open(self):
        shelf = self.shelf
        for deed, arguments in ((shelf.close_page, ()), (shelf.need, ()), (shelf.begin, ()), (shelf.owned, ()), (shelf.set_row, ("k", "t")), (shelf.read_row, ("k",)),
                                (shelf.commit, ()), (shelf.roll_back, ()), (shelf.told, ())):
            self.refuse(deed, "c", *arguments)

    def test_calls_without_a_change(self):
        shelf = self.shelf
        for under_way in (False, True):
            if under_way:
                shelf.begin("b")
            for deed, arguments in ((shelf.owned, ()), (shelf.set_row, ("k", "t")), (shelf.commit, ()), (shelf.roll_back, ())):
                self.refuse(deed, "a", *arguments)

    def test_one_change_at_a_time(self):
        self.shelf.begin("a")
        self.refuse(self.shelf.begin, "a")
        self.refuse(self.shelf.begin, "b")
        self.assertIs(self.shelf.owned("a"), self.shelf.change)
        self.shelf.roll_back("a")
        self.shelf.begin("b")
        self.shelf.commit("b")
        self.shelf.begin("a")

    def test_what_each_page_reads(self):
        self.change("a", ("k", "1"), ("m", "2"))
        self.shelf.begin("a")
        self.shelf.set_row("a", "k", "3")
        self.shelf.set_row("a", "m", None)
        self.shelf.set_row("a", "n", "")
        self.assertEqual([[self.shelf.read_row(page, key) for key in ("k", "m", "n", "o")] for page in ("a", "b")], [["3", None, "", None], ["1", "2", None, None]])
        self.assertEqual((self.shelf.owned("a").rows, self.shelf.after(self.shelf.owned("a"))), ({"k": "3", "m": None, "n": ""}, {"k": "3", "n": ""}))
        self.assertEqual(self.shelf.rows, {"k": "1", "m": "2"})
        self.assertIs(self.shelf.commit("a"), True)
        self.assertEqual([[self.shelf.read_row(page, key) for key in ("k", "m", "n", "o")] for page in ("a", "b")], [["3", None, "", None]] * 2)
        self.assertEqual(self.shelf.rows, {"k": "3", "n": ""})

    def test_a_change_that_is_rolled_back(self):
        self.change("a", ("k", "1"))
        self.shelf.begin("a")
        self.shelf.set_row("a", "k", "2")
        self.shelf.roll_back("a")
        self.assertEqual((self.shelf.rows, self.shelf.read_row("a", "k"), self.shelf.told("b")), ({"k": "1"}, "1", ((("k", None, "1"),),)))

    def test_what_others_are_told(self):
        self.shelf.open_page("c")
        self.change("a", ("m", "1"), ("k", "2"), ("o", None))
        self.change("b", ("m", None), ("k", "2"), ("l", ""))
        self.assertEqual(self.shelf.told("a"), ((("l", None, ""), ("m", "1", None)),))
        self.assertEqual(self.shelf.told("b"), ((("k", None, "2"), ("m", None, "1")),))
        self.assertEqual(self.shelf.told("c"), ((("k", None, "2"), ("m", None, "1")), (("l", None, ""), ("m", "1", None))))
        self.assertEqual([self.shelf.told(page) for page in "abc"], [(), (), ()])

    def test_a_change_by_which_nothing_has_become_another_one(self):
        self.change("a", ("k", "1"))
        self.shelf.told("b")
        for rows in ((), (("k", "1"),), (("k", "2"), ("k", "1")), (("m", "1"), ("m", None)), (("m", None),)):
            self.assertIs(self.change("a", *rows), True)
            self.assertEqual(self.shelf.told("b"), ())

    def test_keys_and_texts(self):
        self.shelf.begin("a")
        for key in ("k", "k" * 50, " ", "\n"):
            self.shelf.set_row("a", key, "")
        for key in ("", "k" * 51, 1, None, ("k",)):
            self.refuse(self.shelf.set_row, "a", key, "t")
        for text in (1, 0, False, ("t",), ["t"]):
            self.refuse(self.shelf.set_row, "a", "k", text)

    def test_five_hundred_characters(self):
        self.assertIs(self.change("a", ("k" * 50, "t" * 449), ("l", "")), True)
        self.assertEqual(len(self.shelf.told("b")), 1)
        kept = dict(self.shelf.rows)
        for rows in ((("m", ""),), (("l", "t"),), (("k" * 50, None), ("m", "t" * 499))):
            self.assertIs(self.change("a", *rows), False)
            self.assertEqual((self.shelf.rows, self.shelf.change, self.shelf.told("b")), (kept, None, ()))
        self.assertIs(self.change("b", ("k" * 50, None), ("m", "t" * 498)), True)
        self.assertEqual(self.shelf.rows, {"l": "", "m": "t" * 498})

    def test_a_page_that_closes_within_its_change(self):
        self.shelf.begin("a")
        self.shelf.set_row("a", "k", "1")
        self.shelf.close_page("a")
        self.assertEqual((self.shelf.change, self.shelf.rows), (None, {}))
        self.shelf.begin("b")
        self.shelf.open_page("a")
        self.shelf.close_page("a")
        self.assertEqual(self.shelf.owned("b").page, "b")

    def test_who_closes_is_told_nothing(self):
        self.change("a", ("k", "1"))
        self.shelf.close_page("b")
        self.change("a", ("k", "2"))
        self.shelf.open_page("b")
        self.assertEqual(self.shelf.told("b"), ())
        self.change("a", ("k", "3"))
        self.assertEqual(self.shelf.told("b"), ((("k", "2", "3"),),))


if __name__ == "__main__":
    unittest.main()
