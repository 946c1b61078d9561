"""Browser: pages by address, a history of them, and lines that say what a user does."""

from pagestack.errors import PageError, PlaceError
from pagestack.markup import markup_of
from pagestack.page import Page
from pagestack.paint import element_at
from pagestack.texts import is_digits
from pagestack.values import all_names, value_text

MOST_VISITS = 50
MOST_FOLLOWED = 5
MOST_DIGITS = 3


def site_name(address):
    """Return the part of an address that counts: what stands before "?"."""
    return address.partition("?")[0]


def numbers_in(rest, many):
    """Return the numbers of a line's rest; raise PlaceError if it is not so many of at most three digits."""
    words = rest.split(" ")
    if len(words) != many or not all(is_digits(word, MOST_DIGITS) for word in words):
        raise PlaceError("other numbers")
    return [int(word) for word in words]


def need_nothing(rest):
    """Raise PlaceError for a line that goes on behind its word."""
    if rest != "":
        raise PlaceError("the line goes on")


def element_of(page, name):
    """Return the element of an id; raise PlaceError for none."""
    node = page.document.by_id(name)
    if node is None:
        raise PlaceError("no such id")
    return node


def click_at(page, rest):
    """Click on the element that a cell shows, if it shows one."""
    column, row = numbers_in(rest, 2)
    number = element_at(page.painted(), column, row)
    if number is not None:
        page.click(page.document.node_of(number))


def press_at(page, rest):
    """Click on the element of an id."""
    page.click(element_of(page, rest))


def send_keys(page, rest):
    """Send signs as keys, one after another."""
    if rest == "":
        raise PlaceError("no keys")
    for sign in rest:
        page.press_key(sign)


def wait_ticks(page, rest):
    """Let time pass."""
    page.wait(numbers_in(rest, 1)[0])


def rows_shown(page, rest):
    """Return the rows of the window, without blanks at their ends."""
    need_nothing(rest)
    return tuple(row.rstrip(" ") for row in page.painted().letter_rows())


def markup_shown(page, rest):
    """Return the markup of the page as a row."""
    need_nothing(rest)
    return (markup_of(page.document.root),)


def printed_rows(page, rest):
    """Return what was printed."""
    need_nothing(rest)
    return tuple(page.printed)


def fault_rows(page, rest):
    """Return the words of the page's faults."""
    need_nothing(rest)
    return tuple(page.faults)


def style_shown(page, rest):
    """Return the value of a property of the element of an id, as a row."""
    name, _, word = rest.rpartition(" ")
    node = element_of(page, name)
    if word not in all_names():
        raise PlaceError("no such property")
    styles, _ = page.laid_out()
    return (value_text(styles[node.number][word]),)


def box_shown(page, rest):
    """Return the left and top, width and height of the box of an id's element, or "none", as a row."""
    box = page.box_of(element_of(page, rest))
    return ("none",) if box is None else (f"{box.left} {box.top} {box.width} {box.height}",)


DEEDS = {"click": click_at, "press": press_at, "key": send_keys, "wait": wait_ticks}
QUESTIONS = {
    "show": rows_shown, "markup": markup_shown, "printed": printed_rows, "faults": fault_rows, "style": style_shown,
    "box": box_shown,
}


class Browser:
    """A site (markup by address), the window's size, the addresses visited with their pages, and the one shown."""

    def __init__(self, site, width=40, height=20):
        self.site = site
        self.width = width
        self.height = height
        # (address, page) rows
        self.visits = []
        self.place = -1

    def shown_page(self):
        """Return the page that is shown; raise PlaceError if there is none."""
        if self.place < 0:
            raise PlaceError("no page is shown")
        return self.visits[self.place][1]

    def address(self):
        """Return the address of the page that is shown; raise PlaceError if there is none."""
        if self.place < 0:
            raise PlaceError("no page is shown")
        return self.visits[self.place][0]

    def open_page(self, address):
        """Show a page anew; what was ahead in the history is forgotten; raise PlaceError for an unknown address."""
        name = site_name(address)
        if name not in self.site or self.place >= MOST_VISITS:
            raise PlaceError("no such page")
        page = Page(self.site[name], self.width, self.height)
        self.place += 1
        self.visits = self.visits[:self.place] + [(address, page)]

    def go_to(self, wanted):
        """Show a wanted page without following it further; stay for an unknown address."""
        address = wanted
        if wanted == "":
            address = self.address()
        elif site_name(wanted) == "":
            address = site_name(self.address()) + wanted
        if site_name(address) in self.site:
            self.open_page(address)

    def follow(self):
        """Show what pages want, one after another, as far as that is followed in a row."""
        for _ in range(MOST_FOLLOWED):
            page = self.shown_page()
            wanted = page.wanted
            if wanted is None:
                return
            # A page in the history is not to lead on again when it is shown again.
            page.wanted = None
            self.go_to(wanted)

    def move(self, steps):
        """Show another page of the history; raise PlaceError if there is none."""
        if not 0 <= self.place + steps < len(self.visits):
            raise PlaceError("no such page")
        self.place += steps

    def do(self, word, rest):
        """Do what a line tells and return its answer; raise PageError for one that cannot be."""
        if word in QUESTIONS:
            action = QUESTIONS[word]
            return action(self.shown_page(), rest)
        if word in ("back", "ahead"):
            need_nothing(rest)
            self.move(1 if word == "ahead" else -1)
        elif word == "open":
            self.open_page(rest)
        elif word in DEEDS:
            action = DEEDS[word]
            action(self.shown_page(), rest)
        else:
            raise PlaceError("no such line")
        self.follow()
        return (self.address(),)

    def enter(self, line):
        """Carry out a line and return its answer as lines of text; ("error",) for one that cannot be."""
        word, _, rest = line.partition(" ")
        try:
            return self.do(word, rest)
        except PageError:
            return ("error",)
