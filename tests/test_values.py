"""Values [5]: what each property may be, and its first value [6]."""

import unittest

from pagestack.errors import StyleError
from pagestack.values import (COLOURS, all_names, expanded, initial, is_number, length_of, resolved, value_of,
                              value_text)

SIDES = ("top", "right", "bottom", "left")
MARGINS = tuple("margin-" + side for side in SIDES)
PADDINGS = tuple("padding-" + side for side in SIDES)
LENGTHS = MARGINS + PADDINGS + ("border", "width", "height", "min-width", "max-width", "left", "top")
AUTO = ("width", "height", "left", "top", "max-width", "margin-left", "margin-right")
WORDS = {
    "display": ("block", "inline", "none", "flex"),
    "text-align": ("left", "center", "right"),
    "position": ("static", "relative", "absolute"),
    "white-space": ("normal", "pre"),
    "overflow": ("visible", "hidden"),
    "justify": ("start", "center", "end", "between"),
    "visibility": ("visible", "hidden"),
    "text-transform": ("none", "upper", "lower"),
}
COLOUR_WORDS = ("black", "red", "green", "blue", "yellow", "white", "grey")


class Numbers(unittest.TestCase):
    def test_numbers(self):
        for text in ("0", "7", "42", "999", "-1", "-999", "007", "-0"):
            self.assertTrue(is_number(text), text)
        for text in ("", "-", "1000", "-1000", "0000", "+1", "--1", "1-", "1.5", " 1", "1 ", "a", "1a", "pc", "\u0663", "\u00b2"):
            self.assertFalse(is_number(text), text)
        for sign in map(chr, range(32, 127)):
            self.assertEqual(is_number("1" + sign), sign.isdigit(), sign)


class Values(unittest.TestCase):
    def refuse(self, name, *texts):
        for text in texts:
            with self.assertRaises(StyleError, msg=f"{name}: {text}"):
                value_of(name, text)

    def test_all_names(self):
        names = LENGTHS + tuple(WORDS) + ("z-index", "order", "grow", "color", "background")
        self.assertEqual(all_names(), tuple(sorted(names)))
        self.assertEqual(len(all_names()), 28)

    def test_colours(self):
        self.assertEqual(COLOURS, COLOUR_WORDS + ("none",))
        for word in COLOUR_WORDS:
            self.assertEqual((value_of("color", word), value_of("background", word)), (word, word))
        self.assertEqual(value_of("background", "none"), "none")
        self.refuse("color", "none", "pink", "Red", "", "1", "auto")
        self.refuse("background", "pink", "", "auto")

    def test_words(self):
        everything = [word for words in WORDS.values() for word in words] + list(COLOUR_WORDS)
        for name, words in WORDS.items():
            for word in words:
                self.assertEqual(value_of(name, word), word)
            self.refuse(name, *[word for word in everything if word not in words and word != "none" or word == "red"])
            self.refuse(name, "", "1", "auto", words[0].upper())
        self.refuse("position", "none")
        self.refuse("visibility", "none")

    def test_lengths(self):
        for name in LENGTHS:
            for number in ("0", "5", "999"):
                self.assertEqual(value_of(name, number), ("cells", int(number)))
                self.assertEqual(length_of(name, number), ("cells", int(number)))
            self.refuse(name, "1000", "1.5", "5 pc", "5px", "5p", "pc", "-pc", "", "none", "+5", "1000pc", "pc5", "5pcpc")
            if name in ("left", "top"):
                self.assertEqual(value_of(name, "-12"), ("cells", -12))
                self.refuse(name, "-1000")
            else:
                self.refuse(name, "-1", "-1pc")
            if name in AUTO:
                self.assertEqual(value_of(name, "auto"), "auto")
            else:
                self.refuse(name, "auto")
            if name in ("border", "height", "top"):
                self.refuse(name, "5pc", "-5pc", "0pc")
            else:
                self.assertEqual(value_of(name, "50pc"), ("share", 50))
                self.assertEqual(value_of(name, "999pc"), ("share", 999))
        self.assertEqual(value_of("left", "-50pc"), ("share", -50))

    def test_a_refused_length(self):
        for name, text in (("width", "-1"), ("width", "x"), ("top", "1pc"), ("padding-top", "auto")):
            with self.assertRaises(StyleError):
                length_of(name, text)

    def test_plain_numbers(self):
        for name in ("z-index", "order", "grow"):
            self.assertEqual([value_of(name, text) for text in ("0", "12", "999")], [0, 12, 999])
            self.refuse(name, "1000", "", "auto", "1pc", "x", "1.5")
        self.assertEqual((value_of("z-index", "-3"), value_of("order", "-999")), (-3, -999))
        self.refuse("grow", "-1")

    def test_inherit_is_for_all(self):
        for name in all_names():
            self.assertEqual(value_of(name, "inherit"), "inherit")

    def test_unknown_properties(self):
        for name in ("", "colour", "margin", "padding", "Color", "--a", "names", "bottom", "border-top"):
            self.refuse(name, "1", "inherit", "red")

    def test_first_values(self):
        wanted = {"display": "inline", "color": "black", "background": "none", "z-index": 0, "order": 0, "grow": 0}
        for name, words in WORDS.items():
            wanted.setdefault(name, words[0])
        for name in LENGTHS:
            wanted[name] = "auto" if name in AUTO and name not in MARGINS else ("cells", 0)
        self.assertEqual({name: initial(name) for name in all_names()}, wanted)


class Expanded(unittest.TestCase):
    def test_one_to_four_lengths(self):
        for name in ("margin", "padding"):
            for text, numbers in (("1", (1, 1, 1, 1)), ("1 2", (1, 2, 1, 2)), ("1 2 3", (1, 2, 3, 2)), ("1  2 3 4", (1, 2, 3, 4))):
                wanted = tuple((f"{name}-{side}", ("cells", number)) for side, number in zip(SIDES, numbers))
                self.assertEqual(expanded(name, text), wanted)
        self.assertEqual(expanded("padding", "5pc 0")[0], ("padding-top", ("share", 5)))

    def test_auto_is_for_the_sides_of_margins(self):
        wanted = (("margin-top", ("cells", 0)), ("margin-right", "auto"), ("margin-bottom", ("cells", 0)), ("margin-left", "auto"))
        self.assertEqual(expanded("margin", "0 auto"), wanted)
        self.assertEqual(expanded("margin", "1 auto 2 3")[1], ("margin-right", "auto"))
        for name, text in (("margin", "auto"), ("margin", "0 1 auto"), ("margin", "auto 0"), ("padding", "0 auto"), ("padding", "auto")):
            with self.assertRaises(StyleError):
                expanded(name, text)

    def test_what_is_refused(self):
        for name in ("margin", "padding"):
            for text in ("", " ", "1 2 3 4 5", "inherit", "1 inherit", "use(--a)", "1 use(--a)", "-1", "1 -1", "x", "1,2", "1000"):
                with self.assertRaises(StyleError, msg=text):
                    expanded(name, text)

    def test_other_properties_stay_as_they_are(self):
        self.assertEqual(expanded("color", "red"), (("color", "red"),))
        self.assertEqual(expanded("margin-left", "auto"), (("margin-left", "auto"),))
        for name, text in (("color", "none"), ("margin-middle", "1"), ("width", "1 2")):
            with self.assertRaises(StyleError):
                expanded(name, text)


class Texts(unittest.TestCase):
    def test_texts_of_values(self):
        rows = ((("cells", 3), "3"), (("cells", -3), "-3"), (("share", 50), "50pc"), ("auto", "auto"), ("red", "red"), (0, "0"),
                (-4, "-4"), (("use", "--a"), "use(--a)"), ("inherit", "inherit"))
        for value, text in rows:
            self.assertEqual(value_text(value), text)

    def test_texts_read_back(self):
        for name in all_names():
            for text in ("5", "-5", "50pc", "-50pc", "auto", "none", "red", "inherit", "pre", "upper", "flex"):
                try:
                    value = value_of(name, text)
                except StyleError:
                    continue
                self.assertEqual(value_of(name, value_text(value)), value)

    def test_lengths_in_cells(self):
        self.assertEqual(resolved(("cells", 7), 40), 7)
        self.assertEqual(resolved(("cells", -7), 40), -7)
        self.assertEqual(resolved(("share", 50), 41), 20)
        self.assertEqual(resolved(("share", 33), 10), 3)
        self.assertEqual(resolved(("share", 99), 200), 198)
        self.assertEqual(resolved(("share", -50), 3), -2)
        self.assertEqual(resolved(("share", 150), 10), 15)
        self.assertEqual(resolved("auto", 10), "auto")


if __name__ == "__main__":
    unittest.main()
