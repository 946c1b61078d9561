"""Events: what happens at elements, on the way from the root to them and back."""

from pagestack.errors import TreeError

BUBBLING = ("click", "key", "change", "submit", "note")


class Event:
    """What happened, at which element, with which detail; how far it went, and whether it was stopped or refused."""

    def __init__(self, kind, target, detail=""):
        self.kind = kind
        self.target = target
        self.detail = detail
        self.current = None
        self.phase = None
        self.stopped = False
        self.stopped_now = False
        self.refused = False


class Listeners:
    """Listeners by element's number: (kind, captures, once, function), in the order of adding."""

    def __init__(self):
        self.rows = {}

    def place_of(self, number, kind, function, captures):
        """Return the place of a listener among those of its element, None for none."""
        for place, row in enumerate(self.rows.get(number, [])):
            if row[0] == kind and row[1] == captures and row[3] == function:
                return place
        return None

    def add(self, number, kind, function, captures=False, once=False):
        """Add a listener, unless the same function is there already in the same way; return whether it was added."""
        if self.place_of(number, kind, function, captures) is not None:
            return False
        self.rows.setdefault(number, []).append((kind, captures, once, function))
        return True

    def remove(self, number, kind, function, captures=False):
        """Take a listener out; return whether it was there."""
        place = self.place_of(number, kind, function, captures)
        if place is None:
            return False
        del self.rows[number][place]
        return True

    def for_phase(self, number, kind, phase):
        """Return the listeners of an element for a phase, in order; at the target those that capture come first."""
        rows = [row for row in self.rows.get(number, []) if row[0] == kind]
        capturing = [row for row in rows if row[1]]
        others = [row for row in rows if not row[1]]
        if phase == "capture":
            return capturing
        return others if phase == "bubble" else capturing + others

    def is_there(self, number, listener):
        """Return True if a listener is among those of an element, just as it is told."""
        return listener in self.rows.get(number, [])


def way_of(node, bubbles):
    """Return the (element, phase) steps of an event: down from the root, at the element, and up again if it bubbles."""
    if node.is_text():
        raise TreeError("no events at texts")
    above = node.path()[:-1]
    steps = [(one, "capture") for one in above] + [(node, "target")]
    if bubbles:
        steps.extend([(one, "bubble") for one in above[::-1]])
    return steps


def call_listeners(listeners, event, call):
    """Call the listeners of the element at which an event is, but for those that are dropped meanwhile."""
    number = event.current.number
    called = listeners.for_phase(number, event.kind, event.phase)
    for listener in called:
        if event.stopped_now:
            return
        if listeners.is_there(number, listener):
            _, captures, once, function = listener
            if once:
                listeners.remove(number, event.kind, function, captures)
            call(function, event)


def dispatch(listeners, event, call):
    """Send an event on its way and return whether it was not refused; call is called with functions and the event."""
    steps = way_of(event.target, event.kind in BUBBLING)
    try:
        for node, phase in steps:
            event.current = node
            event.phase = phase
            call_listeners(listeners, event, call)
            if event.stopped or event.stopped_now:
                break
    finally:
        event.current = None
        event.phase = None
    return not event.refused
