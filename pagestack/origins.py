"""Origins: who may load and read what from where."""

from pagestack.errors import PolicyError
from pagestack.texts import is_digits, is_visible

SORTS = ("script", "style", "image", "frame", "data")
# By scheme: the port that it has anyway.
PORTS = {"web": 80, "safe": 443}
HOST_SIGNS = "abcdefghijklmnopqrstuvwxyz0123456789-"
MOST_ADDRESS = 200
MOST_PORT = 65535
MOST_PORT_DIGITS = 5
PLAIN_METHODS = ("GET", "HEAD", "POST")
PLAIN_HEADS = ("accept", "language")
REST = "all"
ANYONE = "*"
BELOW = "*."


class Address:
    """A scheme ("web" or "safe"), a host, a port and a path."""

    def __init__(self, scheme, host, port, path):
        self.scheme = scheme
        self.host = host
        self.port = port
        self.place = path

    def origin(self):
        """Return (scheme, host, port)."""
        return (self.scheme, self.host, self.port)

    def as_text(self):
        """Return the address's text; a port that its scheme has anyway is left out."""
        return origin_text(self) + self.place


def origin_text(address):
    """Return the text of an address's origin."""
    text = address.scheme + "://" + address.host
    return text if address.port == PORTS.get(address.scheme) else f"{text}:{address.port}"


def is_host(text):
    """Return True for parts of small letters, digits and "-", none of them empty, parted by "."."""
    return all([part != "" and all([sign in HOST_SIGNS for sign in part]) for part in text.split(".")])


def port_of(text):
    """Return the port of a text; raise PolicyError for others."""
    if not is_digits(text, MOST_PORT_DIGITS) or text.startswith("0") or int(text) > MOST_PORT:
        raise PolicyError("no port")
    return int(text)


def parse_address(text):
    """Return the address of "scheme://host:port/path"; the port and the path may lack. PolicyError for others."""
    scheme, mark, rest = text.partition("://")
    before, _, path = rest.partition("/")
    host, colon, port = before.partition(":")
    if scheme not in PORTS or mark == "" or len(text) > MOST_ADDRESS or not is_host(host):
        raise PolicyError("no address")
    if not is_visible(path):
        raise PolicyError("no path")
    return Address(scheme, host, PORTS[scheme] if colon == "" else port_of(port), "/" + path)


def is_below_host(host, other):
    """Return True if a host is another one, or below it."""
    return host == other or host.endswith("." + other)


def lets(rule, page, address):
    """Return True if a rule lets a page load something from an address."""
    if rule == "self":
        return page.origin() == address.origin()
    if rule == "any":
        return True
    if rule == "none":
        return False
    if rule == "safe":
        return address.scheme == "safe"
    if rule.startswith(BELOW):
        return address.host.endswith("." + rule.removeprefix(BELOW))
    return address.host == rule


class Policy:
    """What a page may load: a table of sorts to rules; "all" is for sorts that are not told."""

    def __init__(self, rules):
        self.loads = dict(rules)

    def may_load(self, sort, page, address):
        """Return True if a page (its address) may load something of a sort from an address.

        Rules are "self", "none", "any", "safe" (any by that scheme), a host, or "*.host" for all below it. A page that
        is safe loads nothing by "web", whatever its rules tell.
        """
        if page.scheme == "safe" and address.scheme == "web":
            return False
        # Where nothing is told of a sort, there is no rule that lets it be loaded.
        rules = self.loads.get(sort, self.loads.get(REST, ()))
        return any([lets(rule, page, address) for rule in rules])


def need_rule(word):
    """Raise PolicyError for what is no rule."""
    # The words for rules have the signs of hosts, so that they need no test of their own.
    if not is_host(word.removeprefix(BELOW)):
        raise PolicyError("no rule")


def parse_policy(text):
    """Return the policy of "sort rule rule; sort rule"; raise PolicyError for others, and a sort told twice."""
    rules = {}
    for line in text.split(";"):
        words = line.split()
        if words == []:
            continue
        if words[0] not in SORTS + (REST,) or words[0] in rules or len(words) < 2:
            raise PolicyError("no policy")
        for word in words[1:]:
            need_rule(word)
        rules[words[0]] = tuple(words[1:])
    return Policy(rules)


class Wish:
    """Who asks (a page's address), what for (an address), by which method and heads, and whether with cookies."""

    def __init__(self, page, address, method, heads=(), with_cookies=False):
        self.page = page
        self.asked = address
        self.method = method
        self.heads = heads
        self.with_cookies = with_cookies

    def is_own(self):
        """Return True if the page asks its own origin."""
        return self.page.origin() == self.asked.origin()

    def needs_asking(self):
        """Return True if the other origin has to be asked first: for methods and heads that are not plain."""
        if self.is_own():
            return False
        return self.method not in PLAIN_METHODS or any([head not in PLAIN_HEADS for head in self.heads])


class Shares:
    """What an origin shares with others: origins ("*" for any), methods, heads, and whether with cookies."""

    def __init__(self, origins, methods=(), heads=(), cookies=False):
        self.origins = origins
        self.methods = methods
        self.heads = heads
        self.cookies = cookies

    def may_ask(self, wish):
        """Return True if a wish may be sent on: it needs no asking, or its method and all its heads are shared."""
        if not wish.needs_asking():
            return True
        if wish.method not in PLAIN_METHODS and wish.method not in self.methods:
            return False
        if any([head not in PLAIN_HEADS and head not in self.heads for head in wish.heads]):
            return False
        return self.shares_with(wish)

    def may_read(self, wish):
        """Return True if the page may read the answer: its own origin's, or one that is shared with it."""
        return wish.is_own() or self.shares_with(wish)

    def shares_with(self, wish):
        """Return True if answers are shared with a page; with cookies only by name, and if they are shared, too."""
        is_named = origin_text(wish.page) in self.origins
        if wish.with_cookies:
            return is_named and self.cookies
        return is_named or ANYONE in self.origins
