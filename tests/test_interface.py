"""The interface: each listed name stands in its file, with the listed arguments, and each listed method in its class."""

import importlib
import inspect
import unittest

CLASSES = {
    "errors": {"RunError": {"__init__": "word"}},
    "nodes": {
        "Node": {"__init__": "number, tag, text=''", "is_text": "", "attribute": "name", "class_words": "",
                 "element_children": "", "path": "", "all_nodes": "", "content": "", "shown": ""},
        "Document": {"__init__": "", "make": "tag, text=''", "node_of": "number", "append": "parent, child",
                     "place_before": "parent, child, place", "remove": "child", "set_attribute": "node, name, value",
                     "set_text": "node, text", "by_id": "name"},
    },
    "selectors": {
        "Simple": {"__init__": "tag, name, classes, attributes, states", "fits": "node", "weight": "", "shown": ""},
        "Selector": {"__init__": "first, rows", "fits": "node", "weight": "", "shown": ""},
        "SelectorReader": {"__init__": "text", "here": "", "attribute": ""},
    },
    "styles": {
        "Declaration": {"__init__": "name, value, important", "shown": ""},
        "Rule": {"__init__": "selectors, declarations, least=None, most=None", "holds": "width", "shown": ""},
    },
    "boxes": {
        "Piece": {"__init__": "kind, text, node, width", "shown": ""},
        "Box": {"__init__": "node, values"},
    },
    "lines": {"Line": {"__init__": "", "add": "piece, text"}},
    "paint": {
        "Canvas": {"__init__": "width, height", "cell": "column, row", "fill": "area, colour, number, clip",
                   "write": "column, row, text, look, clip", "letter_rows": "", "shown": ""},
    },
    "events": {
        "Event": {"__init__": "kind, target, detail=''"},
        "Listeners": {"__init__": "", "add": "number, kind, function, captures=False, once=False",
                      "remove": "number, kind, function, captures=False", "for_phase": "number, kind, phase"},
    },
    "scriptwords": {"ScriptToken": {"__init__": "kind, value", "shown": ""}},
    "scriptparse": {"ScriptReader": {"__init__": "text", "here": "", "take": "kind"}},
    "scriptvalues": {
        "Function": {"__init__": "number, names, body, scope"},
        "ScriptList": {"__init__": "number, rows"},
        "ScriptTable": {"__init__": "number, rows"},
        "PageFunction": {"__init__": "name, least, most"},
    },
    "calls": {"Calls": {"__init__": "page", "do": "name, arguments"}},
    "page": {
        "Page": {"__init__": "markup, width=40, height=20", "laid_out": "", "painted": "", "resize": "width, height",
                 "click": "node", "wait": "ticks"},
    },
    "records": {
        "Recorder": {"__init__": "document", "take": "", "make": "tag, text=''", "place_before": "parent, child, place",
                     "append": "parent, child", "remove": "child", "set_attribute": "node, name, value", "set_text": "node, text"},
    },
    "origins": {
        "Address": {"__init__": "scheme, host, port, path", "origin": "", "as_text": ""},
        "Policy": {"__init__": "rules", "may_load": "sort, page, address"},
        "Wish": {"__init__": "page, address, method, heads=(), with_cookies=False", "is_own": "", "needs_asking": ""},
        "Shares": {"__init__": "origins, methods=(), heads=(), cookies=False", "may_ask": "wish", "may_read": "wish", "shares_with": "wish"},
    },
    "jars": {
        "Cookie": {"__init__": "name, text, host, below, path, safe, until", "identity": ""},
        "Jar": {"__init__": "", "put": "line, address, time", "clean": "time", "close": "", "sent": "address, time"},
    },
    "shelves": {
        "Change": {"__init__": "page"},
        "Shelf": {"__init__": "", "open_page": "page", "close_page": "page", "need": "page", "begin": "page", "owned": "page",
                  "set_row": "page, key, text", "read_row": "page, key", "after": "change", "commit": "page", "roll_back": "page", "told": "page"},
    },
    "motion": {
        "Path": {"__init__": "first, last, start, length, way", "is_over": "time", "value_at": "time"},
        "Mover": {"__init__": "", "set_way": "name, length, way", "value_now": "name", "go_to": "name, last", "tick": "many=1", "moving": ""},
    },
    "browser": {
        "Browser": {"__init__": "site, width=40, height=20", "shown_page": "", "address": "", "open_page": "address", "go_to": "wanted",
                    "enter": "line"},
    },
}
FUNCTIONS = {
    "markup": {"with_entities": "text", "escaped": "text", "parse_markup": "text", "markup_of": "node", "inner_markup": "node"},
    "selectors": {"has_state": "node, state", "element_before": "node", "parse_selectors": "text", "simple_text": "simple",
                  "selector_text": "selector", "find_all": "root, text"},
    "values": {"all_names": "", "initial": "name", "is_number": "text", "length_of": "name, text", "value_of": "name, text",
               "expanded": "name, text", "value_text": "value", "resolved": "value, whole"},
    "styles": {"without_remarks": "text", "declarations_of": "text", "block_at": "text, place", "width_of": "text",
               "parse_styles": "text", "declaration_text": "declaration", "rule_text": "rule", "styles_text": "rules"},
    "cascade": {"own_styles": "node", "inline_declarations": "node", "ranked": "node, rules, width",
                "with_names": "value, name, names", "computed": "node, above, rules, width", "adjusted": "found",
                "styles_of": "document, rules, width"},
    "boxes": {"transformed": "text, word", "shown_value": "node", "kept_pieces": "text, node"},
    "lines": {"break_lines": "pieces, width, align", "widest": "pieces"},
    "layout": {"lay_out": "document, styles, width"},
    "paint": {"meeting": "one, other", "element_at": "canvas, column, row"},
    "events": {"way_of": "node, bubbles", "dispatch": "listeners, event, call"},
    "scriptwords": {"text_token": "text, place", "run_of": "text, place, signs", "tokens_of": "text"},
    "scriptparse": {"parse_script": "text", "is_statement": "text"},
    "calls": {"number_of": "text", "event_part": "name, event", "good_tag": "value"},
    "page": {"form_rows": "form", "coded": "text"},
    "records": {"replayed": "document, records", "taken_back": "document, records", "put_at": "document, node, parent, place",
                "joined_records": "records"},
    "patches": {"is_like": "one, other", "check_keys": "tree", "patches": "old, new", "kept_children": "old, new", "patched": "tree, rows"},
    "templates": {"parse_template": "text", "is_yes": "value", "text_of_value": "value", "fill_template": "parts, values",
                  "template_text": "parts", "names_asked": "parts"},
    "origins": {"parse_address": "text", "is_below_host": "host, other", "parse_policy": "text", "origin_text": "address"},
    "jars": {"parse_cookie": "line, address, time", "folder_of": "path", "fits_path_of": "cookie, path"},
    "motion": {"share_of": "gone, length, way"},
    "outline": {"role_of": "node", "is_left_out": "node", "name_of": "node, document", "label_for": "node, document", "outline": "document",
                "focus_order": "document", "order_told": "node", "headings": "document"},
}
CONSTANTS = {
    "markup": ("TAG_SIGNS",), "values": ("COLOURS",), "calls": ("FUNCTIONS",), "origins": ("SORTS",), "motion": ("WAYS",),
    "outline": ("ROLES", "FOCUS"),
}


class Interface(unittest.TestCase):
    def test_constants(self):
        for file, names in CONSTANTS.items():
            for name in names:
                self.assertIn(name, vars(importlib.import_module("pagestack." + file)))

    def test_functions(self):
        for file, rows in FUNCTIONS.items():
            module = importlib.import_module("pagestack." + file)
            for name, arguments in rows.items():
                function = getattr(module, name)
                self.assertEqual(function.__module__, module.__name__)
                self.assertEqual(str(inspect.signature(function)), f"({arguments})", name)

    def test_classes(self):
        for file, kinds in CLASSES.items():
            module = importlib.import_module("pagestack." + file)
            for name, methods in kinds.items():
                kind = getattr(module, name)
                self.assertEqual(kind.__module__, module.__name__)
                for method, arguments in methods.items():
                    self.assertIn(method, vars(kind), name)
                    told = str(inspect.signature(vars(kind)[method]))
                    self.assertEqual(told, f"(self, {arguments})".replace(", )", ")"), f"{name}.{method}")


if __name__ == "__main__":
    unittest.main()
