"""Shelves: what pages of one origin keep by key, changed whole or not at all, and told to the others."""

from pagestack.errors import StoreError

MOST_KEY = 50
MOST_KEPT = 500


class Change:
    """A change under way: who makes it, and what it sets (None drops)."""

    def __init__(self, page):
        self.page = page
        self.rows = {}


def size_of(rows):
    """Return how many characters the keys and texts of rows have together."""
    return sum([len(key) + len(text) for key, text in rows.items()])


def changed_rows(before, after):
    """Return (key, before, now) of each key whose text has become another one, by keys ascending."""
    keys = sorted({key: True for key in list(before) + list(after)})
    return tuple((key, before.get(key), after.get(key)) for key in keys if before.get(key) != after.get(key))


class Shelf:
    """An origin's rows, the change under way or None, pages that listen, and what waits for each to be told."""

    def __init__(self):
        self.rows = {}
        self.change = None
        self.listening = []
        self.waiting = {}

    def open_page(self, page):
        """Let a page listen; raise StoreError if it does."""
        if page in self.listening:
            raise StoreError("the page is open")
        self.listening.append(page)
        self.waiting[page] = []

    def close_page(self, page):
        """Let a page listen no more; its change is dropped. Raise StoreError for an unknown one."""
        self.need(page)
        if self.has_change(page):
            self.change = None
        self.listening.remove(page)
        del self.waiting[page]

    def need(self, page):
        """Raise StoreError for a page that is not open."""
        if page not in self.listening:
            raise StoreError("the page is not open")

    def has_change(self, page):
        """Return True if the change under way is a page's own."""
        return self.change is not None and self.change.page == page

    def begin(self, page):
        """Begin a change; raise StoreError while one is under way."""
        self.need(page)
        if self.change is not None:
            raise StoreError("a change is under way")
        self.change = Change(page)

    def owned(self, page):
        """Return the change of a page; raise StoreError if it has none."""
        if not self.has_change(page):
            raise StoreError("the page has no change")
        return self.change

    def set_row(self, page, key, text):
        """Set a key within a change, None to drop it; raise StoreError for a bad key or text."""
        change = self.owned(page)
        if not isinstance(key, str) or key == "" or len(key) > MOST_KEY:
            raise StoreError("no key")
        if text is not None and not isinstance(text, str):
            raise StoreError("no text")
        change.rows[key] = text

    def read_row(self, page, key):
        """Return what a key has for a page: what its own change sets, else what is kept; None for nothing."""
        self.need(page)
        if self.has_change(page) and key in self.change.rows:
            return self.change.rows[key]
        return self.rows.get(key)

    def after(self, change):
        """Return the rows behind a change."""
        rows = dict(self.rows)
        rows.update(change.rows)
        return {key: text for key, text in rows.items() if text is not None}

    def commit(self, page):
        """Keep all of a change and tell it to all other pages; return whether it was kept.

        It is not, and is dropped whole, if keys and texts would have more than 500 characters.
        """
        rows = self.after(self.owned(page))
        self.change = None
        if size_of(rows) > MOST_KEPT:
            return False
        news = changed_rows(self.rows, rows)
        self.rows = rows
        for other in self.listening:
            if news != () and other != page:
                self.waiting[other].append(news)
        return True

    def roll_back(self, page):
        """Drop a change; raise StoreError if the page has none."""
        self.owned(page)
        self.change = None

    def told(self, page):
        """Return what waits for a page, each change as (key, before, now) rows by key, and forget it."""
        self.need(page)
        news = tuple(self.waiting[page])
        self.waiting[page] = []
        return news
