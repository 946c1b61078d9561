"""Jars: cookies, small texts that hosts leave with a browser and get back."""

from pagestack.errors import StoreError
from pagestack.origins import is_below_host
from pagestack.texts import is_digits, is_visible

SIGNS = "abcdefghijklmnopqrstuvwxyzABCDEFGHIJKLMNOPQRSTUVWXYZ0123456789-_"
MOST_SIGNS = 100
MOST_DIGITS = 15
MOST_OF_HOST = 20


class Cookie:
    """A name, a text, a host, whether hosts below it get it too, a path, whether only safe ones, an end, a number."""

    def __init__(self, name, text, host, below, path, safe, until):
        self.name = name
        self.text = text
        self.host = host
        self.below = below
        self.place = path
        self.safe = safe
        self.until = until
        self.number = 0

    def identity(self):
        """Return (host, path, name): there is one cookie of each."""
        return (self.host, self.place, self.name)

    def has_ended(self, time):
        """Return True from the cookie's end on."""
        return self.until is not None and self.until <= time

    def goes_to(self, address):
        """Return True if the cookie is sent to an address, as long as it has not ended."""
        if self.safe and address.scheme != "safe":
            return False
        if self.host != address.host and not (self.below and is_below_host(address.host, self.host)):
            return False
        return fits_path_of(self, address.place)


def folder_of(path):
    """Return the folder of a path: what stands ahead of its last "/", "/" for none."""
    folder = path.rpartition("/")[0]
    return "/" if folder == "" else folder


def fits_path_of(cookie, path):
    """Return True if a path is a cookie's own, or below it."""
    folder = cookie.place if cookie.place.endswith("/") else cookie.place + "/"
    return path == cookie.place or path.startswith(folder)


def pair_of(part):
    """Return (name, text) of "name=text"; raise StoreError for others."""
    name, sign, text = part.partition("=")
    if sign == "" or name == "" or len(part) > MOST_SIGNS or any([one not in SIGNS for one in name + text]):
        raise StoreError("no name and text")
    return (name, text)


def host_of(word, address):
    """Return a host that an address may tell: its own, or one above it that has two parts; raise StoreError."""
    if word != address.host and ("." not in word or not is_below_host(address.host, word)):
        raise StoreError("no host of this address")
    return word


def path_in(word):
    """Return a path; raise StoreError for others."""
    if not word.startswith("/") or not is_visible(word):
        raise StoreError("no path")
    return word


def end_after(word, time):
    """Return the time when so many ticks have passed; raise StoreError for no number of ticks."""
    if not is_digits(word, MOST_DIGITS):
        raise StoreError("no number of ticks")
    return time + int(word)


def told_parts(parts):
    """Return the words of a cookie's line behind its name and text, by the word that begins each; raise StoreError."""
    told = {}
    for part in parts:
        word, sign, rest = part.partition(" ")
        # Only "safe" stands alone.
        if word not in ("host", "path", "safe", "for") or word in told or (word == "safe") != (sign == ""):
            raise StoreError("no cookie")
        told[word] = rest
    return told


def parse_cookie(line, address, time):
    """Return the cookie of "name=text; host h; path p; safe; for n", told by an address; StoreError for others.

    Without a host it is for the address's own alone; a host is the address's own or one above it with two parts at
    least. Without a path it is for all below the address's own folder; without "for" it lasts until the jar is closed.
    """
    first, *rest = [part.strip(" ") for part in line.split(";")]
    name, text = pair_of(first)
    told = told_parts(rest)
    if "safe" in told and address.scheme != "safe":
        raise StoreError("not told by a safe address")
    host = host_of(told["host"], address) if "host" in told else address.host
    path = path_in(told["path"]) if "path" in told else folder_of(address.place)
    until = end_after(told["for"], time) if "for" in told else None
    return Cookie(name, text, host, "host" in told, path, "safe" in told, until)


class Jar:
    """Cookies in the order in which they came, and how many came."""

    def __init__(self):
        self.cookies = []
        self.count = 0

    def put(self, line, address, time):
        """Keep the cookie of a line; StoreError for a bad one.

        One of the same host, path and name goes, and the new one keeps its place and number. One that ends at once
        only lets the other go. A host has at most 20; of more the one that came first goes.
        """
        fresh = parse_cookie(line, address, time)
        kept = [one for one in self.cookies if not one.has_ended(time)]
        old = [one for one in kept if one.identity() == fresh.identity()]
        if not fresh.safe and address.scheme == "web" and any([one.safe for one in old]):
            raise StoreError("a safe one is there")
        self.count += 1
        fresh.number = old[0].number if old != [] else self.count
        place = kept.index(old[0]) if old != [] else len(kept)
        kept[place:place + 1] = [] if fresh.has_ended(time) else [fresh]
        self.cookies = kept
        self.drop_beyond(fresh.host)

    def drop_beyond(self, host):
        """Drop the cookie of a host that came first, if the host has too many."""
        places = [place for place, one in enumerate(self.cookies) if one.host == host]
        if len(places) > MOST_OF_HOST:
            self.cookies.pop(places[0])

    def clean(self, time):
        """Drop the cookies that have ended."""
        self.cookies = [one for one in self.cookies if not one.has_ended(time)]

    def close(self):
        """Drop the cookies that last until the jar is closed."""
        self.cookies = [one for one in self.cookies if one.until is not None]

    def sent(self, address, time):
        """Return the text that is sent to an address: "name=text; name=text", longer paths first, then as they came."""
        self.clean(time)
        going = [one for one in self.cookies if one.goes_to(address)]
        rows = sorted([(-len(one.place), one.number, one.name + "=" + one.text) for one in going])
        return "; ".join([row[2] for row in rows])
