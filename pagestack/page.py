"""Pages: a document with its rules, listeners, scripts and timers; layout and painting when they are asked for."""

from pagestack.calls import Calls
from pagestack.cascade import styles_of
from pagestack.errors import RunError, ScriptError, StyleError
from pagestack.events import Event, Listeners, dispatch
from pagestack.layout import lay_out
from pagestack.markup import parse_markup
from pagestack.paint import Canvas, paint_box
from pagestack.scriptrun import Runner
from pagestack.styles import parse_styles

MOST_PUT_OFF = 100
MOST_TIMERS = 1000
MOST_VALUE = 100


def texts_of(document, tag):
    """Return what stands in the elements of a tag, in order."""
    return [node.content() for node in document.root.all_nodes() if node.tag == tag]


def rules_of(document):
    """Return the rules of all styles of a document; one whose text is none has no rules."""
    found = []
    for text in texts_of(document, "style"):
        try:
            found.extend(parse_styles(text))
        except StyleError:
            continue
    return tuple(found)


def input_class(node):
    """Return the class of an input, None for another element."""
    return node.attributes.get("type", "text") if node.tag == "input" else None


def acts(node):
    """Return True for an element that does something when it is clicked."""
    if node.tag == "a":
        return node.attribute("href") is not None
    return node.tag == "button" or input_class(node) == "submit"


def nearest_acting(node):
    """Return the nearest of an element and those around it that acts, None for none."""
    acting = [one for one in node.path() if acts(one)]
    return acting[-1] if acting != [] else None


def form_around(node):
    """Return the nearest form around an element, None for none."""
    forms = [one for one in node.path()[:-1] if one.tag == "form"]
    return forms[-1] if forms != [] else None


def form_rows(form):
    """Return the (name, value) rows of a form's inputs, in order; checkboxes count if they are marked."""
    rows = []
    for node in form.all_nodes():
        kind = input_class(node)
        name = node.attribute("name")
        if name is None or name == "":
            continue
        if kind in ("text", "hidden"):
            rows.append((name, node.value))
        elif kind == "checkbox" and node.checked:
            rows.append((name, "on" if node.value == "" else node.value))
    return rows


def coded(text):
    """Return a text for an address: letters and digits stay, a blank is "+", others are "*", their number and ";"."""
    found = []
    for sign in text:
        if sign == " ":
            found.append("+")
        elif sign.isalnum():
            found.append(sign)
        else:
            found.append(f"*{ord(sign)};")
    return "".join(found)


def form_address(form):
    """Return the address to which a form is sent, with what its inputs tell."""
    address = form.attributes.get("action", "")
    return address + "?" + "&".join([coded(name) + "=" + coded(value) for name, value in form_rows(form)])


class Page:
    """A document, the window's size, rules, listeners, scripts' runner, timers, what was printed, and the focus."""

    def __init__(self, markup, width=40, height=20):
        self.document = parse_markup(markup)
        self.width = width
        self.height = height
        self.rules = rules_of(self.document)
        self.listeners = Listeners()
        self.printed = []
        self.faults = []
        self.time = 0
        self.timers = []
        self.timers_made = 0
        self.put_off = []
        self.focus = None
        self.wanted = None
        self.layouts = 0
        self.laid_state = None
        self.laid = None
        self.runner = Runner(Calls(self))
        for text in texts_of(self.document, "script"):
            self.run_script(text)

    def state(self):
        """Return all that a layout depends on: how often the tree changed, the inputs' values, and the window."""
        rows = [(node.number, node.value, node.checked) for node in self.document.root.all_nodes()]
        return (self.document.version, rows, self.width, self.height)

    def laid_out(self):
        """Return (styles, the root's box), reckoned anew only if something has changed."""
        state = self.state()
        if state != self.laid_state:
            styles = styles_of(self.document, self.rules, self.width)
            self.laid = (styles, lay_out(self.document, styles, self.width))
            self.laid_state = state
            self.layouts += 1
        return self.laid

    def box_of(self, node):
        """Return the box of an element, None for one without a box."""
        waiting = [self.laid_out()[1]]
        while waiting != []:
            box = waiting.pop()
            if box.node == node:
                return box
            waiting.extend(box.children)
        return None

    def painted(self):
        """Return the painted window."""
        canvas = Canvas(self.width, self.height)
        styles, root = self.laid_out()
        paint_box(canvas, root, styles, (0, 0, self.width, self.height))
        return canvas

    def resize(self, width, height):
        """Give the window another size."""
        self.width = width
        self.height = height

    def run_script(self, text):
        """Run a script as a task."""
        self.runner.begin_task()
        try:
            self.runner.run_script(text)
        except ScriptError:
            self.faults.append("no script")
        except RunError as fault:
            self.faults.append(fault.word)
        self.run_put_off()

    def run_alone(self, function):
        """Run a function with steps and depth of its own."""
        self.runner.begin_task()
        try:
            self.runner.call(function, [])
        except RunError as fault:
            self.faults.append(fault.word)

    def run_put_off(self):
        """Run what was put off, also meanwhile; what is too much for once waits for the next time."""
        many = 0
        while self.put_off != [] and many < MOST_PUT_OFF:
            self.run_alone(self.put_off.pop(0))
            many += 1

    def call_listener(self, function, event):
        """Call a listener; a fault ends it alone."""
        runner = self.runner
        depth = runner.depth
        try:
            runner.call(function, [event])
        except RunError as fault:
            self.faults.append(fault.word)
        runner.depth = depth

    def send(self, event):
        """Send an event and return whether it was not refused."""
        return dispatch(self.listeners, event, self.call_listener)

    def happen(self, kind, node, detail=""):
        """Send an event as a task; return whether it was not refused."""
        self.runner.begin_task()
        is_fine = self.send(Event(kind, node, detail))
        self.run_put_off()
        return is_fine

    def click(self, node):
        """Click on an element: send the event, and if it is not refused do what clicks do there."""
        is_mark = input_class(node) == "checkbox"
        if is_mark:
            node.checked = not node.checked
        if not self.happen("click", node):
            if is_mark:
                node.checked = not node.checked
            return
        if is_mark:
            self.happen("change", node, "on" if node.checked else "off")
        acting = nearest_acting(node)
        if acting is None:
            self.focus = node if input_class(node) == "text" else None
        elif acting.tag == "a":
            self.wanted = acting.attribute("href")
        else:
            self.send_form(form_around(acting))

    def send_form(self, form):
        """Send a form, if there is one, and want its address unless that is refused."""
        if form is not None and self.happen("submit", form):
            self.wanted = form_address(form)

    def press_key(self, sign):
        """Send a key to the focus, if that is in the tree, and let it change the value there unless it is refused."""
        node = self.focus
        if node is None or node.path()[0] != self.document.root or not self.happen("key", node, sign):
            return
        fresh = node.value[:-1] if sign == "<" else node.value + sign
        if len(fresh) <= MOST_VALUE:
            node.value = fresh
            self.happen("change", node, fresh)

    def add_timer(self, function, ticks):
        """Let a function run when some ticks have passed; return the number of the timer."""
        self.timers_made += 1
        self.timers.append((self.time + ticks, self.timers_made, function))
        return self.timers_made

    def take_due(self, time):
        """Take out the timer that is due first up to a time and return it, None for none."""
        due = sorted([timer[:2] for timer in self.timers if timer[0] <= time])
        if due == []:
            return None
        places = [place for place, timer in enumerate(self.timers) if timer[:2] == due[0]]
        return self.timers.pop(places[0])

    def wait(self, ticks):
        """Let time pass; timers that are due run in the order of their times, then as they were made."""
        end = self.time + ticks
        many = 0
        timer = self.take_due(end)
        while timer is not None:
            # A timer that is left over from an earlier wait does not turn the time back.
            self.time = max(self.time, timer[0])
            self.run_alone(timer[2])
            self.run_put_off()
            many += 1
            timer = self.take_due(end) if many < MOST_TIMERS else None
        self.time = end
