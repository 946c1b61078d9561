"""Events [11]: the way of an event, and which listeners are called in which order."""

import unittest

from pagestack.calls import event_part
from pagestack.errors import TreeError
from pagestack.events import Event, Listeners, dispatch, way_of
from pagestack.markup import parse_markup

DOCUMENT = parse_markup('<div><p>text</p></div>')
ROOT, DIV, P, TEXT = [DOCUMENT.nodes[number] for number in range(4)]


class Calls:
    """What was called: (function, element's number, phase), and what a function does then."""

    def __init__(self, actions=None):
        self.rows = []
        self.actions = actions or {}

    def call(self, function, event):
        """Keep a call, and do what the function is to do."""
        self.rows.append((function, event.current.number, event.phase))
        if function in self.actions:
            self.actions[function](event)


def listeners_of(*rows):
    """Return listeners that were added one after another."""
    listeners = Listeners()
    for row in rows:
        listeners.add(*row)
    return listeners


def everywhere(kind="click"):
    """Return listeners of both ways at each element: "c0", "b0", "c1" and so on."""
    rows = []
    for node in (ROOT, DIV, P):
        rows.extend([(node.number, kind, f"b{node.number}"), (node.number, kind, f"c{node.number}", True)])
    return listeners_of(*rows)


def sent(listeners, actions=None, kind="click", target=P):
    """Return (functions called, whether the event was not refused)."""
    calls = Calls(actions)
    fine = dispatch(listeners, Event(kind, target), calls.call)
    return [row[0] for row in calls.rows], fine


class Events(unittest.TestCase):
    def test_an_event(self):
        event = Event("click", P)
        self.assertEqual((event.kind, event.target, event.detail, event.current, event.phase), ("click", P, "", None, None))
        self.assertEqual(Event("note", DIV, 7).detail, 7)

    def test_the_way(self):
        down = [(ROOT, "capture"), (DIV, "capture"), (P, "target")]
        self.assertEqual(way_of(P, False), down)
        self.assertEqual(way_of(P, True), down + [(DIV, "bubble"), (ROOT, "bubble")])
        self.assertEqual(way_of(ROOT, True), [(ROOT, "target")])

    def test_the_way_of_a_text(self):
        for bubbles in (True, False):
            with self.assertRaises(TreeError):
                way_of(TEXT, bubbles)
        with self.assertRaises(TreeError):
            dispatch(Listeners(), Event("click", TEXT), Calls().call)

    def test_the_way_outside_the_tree(self):
        document = parse_markup("")
        above, below = document.make("div"), document.make("p")
        document.append(above, below)
        self.assertEqual(way_of(below, True), [(above, "capture"), (below, "target"), (above, "bubble")])


class Rows(unittest.TestCase):
    def test_adding(self):
        listeners = Listeners()
        self.assertEqual(listeners.rows, {})
        self.assertIs(listeners.add(1, "click", "f"), True)
        self.assertIs(listeners.add(1, "click", "g", True, True), True)
        self.assertEqual(listeners.rows, {1: [("click", False, False, "f"), ("click", True, True, "g")]})

    def test_a_listener_is_there_once(self):
        listeners = listeners_of((1, "click", "f"))
        self.assertIs(listeners.add(1, "click", "f"), False)
        self.assertIs(listeners.add(1, "click", "f", False, True), False)
        self.assertEqual(listeners.rows[1], [("click", False, False, "f")])
        self.assertIs(listeners.add(1, "click", "f", True), True)
        self.assertIs(listeners.add(1, "key", "f"), True)
        self.assertIs(listeners.add(2, "click", "f"), True)

    def test_functions_are_compared_whatever_they_are(self):
        listeners = listeners_of((1, "click", [1, 2]))
        self.assertIs(listeners.add(1, "click", [1] + [2]), False)
        self.assertIs(listeners.remove(1, "click", [1, 2]), True)

    def test_removing(self):
        listeners = listeners_of((1, "click", "f"), (1, "click", "f", True), (1, "click", "g"))
        self.assertIs(listeners.remove(1, "click", "x"), False)
        self.assertIs(listeners.remove(1, "key", "f"), False)
        self.assertIs(listeners.remove(2, "click", "f"), False)
        self.assertIs(listeners.remove(1, "click", "g", True), False)
        self.assertIs(listeners.remove(1, "click", "f", True), True)
        self.assertEqual(listeners.rows[1], [("click", False, False, "f"), ("click", False, False, "g")])
        self.assertIs(listeners.remove(1, "click", "f", True), False)
        self.assertIs(listeners.remove(1, "click", "f"), True)
        self.assertNotIn(2, listeners.rows)

    def test_phases(self):
        listeners = listeners_of((1, "click", "f"), (1, "click", "g", True), (1, "key", "k"), (1, "click", "h"))
        f, g, h = ("click", False, False, "f"), ("click", True, False, "g"), ("click", False, False, "h")
        self.assertEqual(listeners.for_phase(1, "click", "capture"), [g])
        self.assertEqual(listeners.for_phase(1, "click", "bubble"), [f, h])
        self.assertEqual(listeners.for_phase(1, "click", "target"), [g, f, h])
        self.assertEqual(listeners.for_phase(9, "click", "target"), [])
        self.assertEqual(listeners.for_phase(1, "note", "target"), [])


class Dispatch(unittest.TestCase):
    def test_kinds_with_a_way_up(self):
        down = ["c0", "c1", "c2", "b2"]
        for kind in ("click", "key", "change", "submit", "note"):
            self.assertEqual(sent(everywhere(kind), kind=kind), (down + ["b1", "b0"], True), kind)

    def test_kinds_without_a_way_up(self):
        for kind in ("focus", "other", "", "Click"):
            self.assertEqual(sent(everywhere(kind), kind=kind), (["c0", "c1", "c2", "b2"], True), kind)

    def test_what_an_event_tells_on_its_way(self):
        calls = Calls()
        event = Event("click", P)
        dispatch(everywhere(), event, calls.call)
        self.assertEqual([row[1:] for row in calls.rows],
                         [(0, "capture"), (1, "capture"), (2, "target"), (2, "target"), (1, "bubble"), (0, "bubble")])
        self.assertEqual((event.current, event.phase, event.target), (None, None, P))

    def test_behind_a_call_that_fails_an_event_has_no_current(self):
        def fail(function, event):
            raise KeyError(function)
        event = Event("click", P)
        with self.assertRaises(KeyError):
            dispatch(everywhere(), event, fail)
        self.assertEqual((event.current, event.phase), (None, None))

    def test_the_way_is_that_of_the_beginning(self):
        document = parse_markup("<div><p></p></div>")
        node = document.nodes[2]
        calls = Calls({"c0": lambda event: document.remove(node)})
        dispatch(everywhere(), Event("click", node), calls.call)
        self.assertEqual([row[0] for row in calls.rows], ["c0", "c1", "c2", "b2", "b1", "b0"])

    def test_a_stop_ends_the_way_after_the_element(self):
        listeners = everywhere()
        for number in (0, 1, 2):
            listeners.add(number, "click", f"d{number}", True)
            listeners.add(number, "click", f"e{number}")
        whole = ["c0", "d0", "c1", "d1", "c2", "d2", "b2", "e2", "b1", "e1", "b0", "e0"]
        self.assertEqual(sent(listeners)[0], whole)
        for at, many in (("c0", 2), ("d0", 2), ("c1", 4), ("c2", 8), ("d2", 8), ("b2", 8), ("e2", 8), ("b1", 10), ("e1", 10)):
            found = sent(listeners, {at: lambda event: event_part("stop", event)})
            self.assertEqual(found, (whole[:many], True), at)

    def test_a_stop_now_ends_it_at_once(self):
        listeners = everywhere()
        whole = ["c0", "c1", "c2", "b2", "b1", "b0"]
        for place, at in enumerate(whole):
            found = sent(listeners, {at: lambda event: event_part("stopNow", event)})
            self.assertEqual(found, (whole[:place + 1], True), at)

    def test_refusing(self):
        for at in ("c0", "c2", "b2", "b0"):
            found = sent(everywhere(), {at: lambda event: event_part("refuse", event)})
            self.assertEqual(found, (["c0", "c1", "c2", "b2", "b1", "b0"], False), at)
        self.assertEqual(sent(everywhere(), {"b0": lambda event: None}, "focus")[1], True)

    def test_refusing_and_stopping(self):
        def act(event):
            event_part("refuse", event)
            event_part("stopNow", event)
        self.assertEqual(sent(everywhere(), {"c1": act}), (["c0", "c1"], False))

    def test_once(self):
        listeners = listeners_of((2, "click", "f", False, True), (2, "click", "g"))
        self.assertEqual(sent(listeners)[0], ["f", "g"])
        self.assertEqual(sent(listeners)[0], ["g"])
        self.assertEqual(listeners.rows[2], [("click", False, False, "g")])

    def test_once_is_dropped_before_it_is_called(self):
        listeners = listeners_of((2, "click", "f", True, True))
        seen = []
        sent(listeners, {"f": lambda event: seen.append(list(listeners.rows[2]))})
        self.assertEqual(seen, [[]])

    def test_once_that_adds_itself_again(self):
        listeners = listeners_of((2, "click", "f", False, True))
        again = {"f": lambda event: listeners.add(2, "click", "f", False, True)}
        self.assertEqual(sent(listeners, again)[0], ["f"])
        self.assertEqual(sent(listeners, again)[0], ["f"])

    def test_once_is_kept_if_it_is_not_called(self):
        listeners = listeners_of((2, "click", "f"), (2, "click", "g", False, True))
        self.assertEqual(sent(listeners, {"f": lambda event: event_part("stopNow", event)})[0], ["f"])
        self.assertEqual(sent(listeners)[0], ["f", "g"])

    def test_a_listener_that_drops_itself(self):
        listeners = listeners_of((2, "click", "f"), (2, "click", "g"))
        actions = {"f": lambda event: listeners.remove(2, "click", "f")}
        self.assertEqual(sent(listeners, actions)[0], ["f", "g"])
        self.assertEqual(sent(listeners, actions)[0], ["g"])

    def test_a_listener_that_drops_another_one(self):
        listeners = listeners_of((2, "click", "f"), (2, "click", "g"), (2, "click", "h"), (0, "click", "k"))
        def act(event):
            listeners.remove(2, "click", "g")
            listeners.remove(0, "click", "k")
        self.assertEqual(sent(listeners, {"f": act})[0], ["f", "h"])

    def test_a_listener_that_is_dropped_and_added_again_in_the_same_way(self):
        listeners = listeners_of((2, "click", "f"), (2, "click", "g"), (2, "click", "h"))
        def act(event):
            listeners.remove(2, "click", "g")
            listeners.add(2, "click", "g")
        self.assertEqual(sent(listeners, {"f": act})[0], ["f", "g", "h"])
        self.assertEqual(sent(listeners)[0], ["f", "h", "g"])

    def test_a_listener_that_is_dropped_and_added_again_in_another_way(self):
        for once, captures in ((True, False), (False, True)):
            listeners = listeners_of((2, "click", "f"), (2, "click", "g"))
            def act(event):
                listeners.remove(2, "click", "g")
                listeners.add(2, "click", "g", captures, once)
            self.assertEqual(sent(listeners, {"f": act})[0], ["f"])

    def test_listeners_that_are_added_meanwhile(self):
        listeners = listeners_of((2, "click", "f"))
        def act(event):
            listeners.add(2, "click", "here")
            listeners.add(1, "click", "behind")
            listeners.add(1, "click", "before", True)
        self.assertEqual(sent(listeners, {"f": act})[0], ["f", "behind"])
        self.assertEqual(sent(listeners)[0], ["before", "f", "here", "behind"])

    def test_added_at_the_target_on_the_way_down(self):
        listeners = listeners_of((0, "click", "f", True))
        self.assertEqual(sent(listeners, {"f": lambda event: listeners.add(2, "click", "g")})[0], ["f", "g"])

    def test_an_event_within_an_event(self):
        listeners = everywhere()
        calls = Calls()
        def act(event):
            if event.kind == "click":
                dispatch(listeners, Event("note", DIV), calls.call)
        calls.actions["b2"] = act
        listeners.add(1, "note", "n")
        event = Event("click", P)
        dispatch(listeners, event, calls.call)
        self.assertEqual([row[0] for row in calls.rows], ["c0", "c1", "c2", "b2", "n", "b1", "b0"])

    def test_no_listeners(self):
        self.assertEqual(sent(Listeners()), ([], True))


if __name__ == "__main__":
    unittest.main()
