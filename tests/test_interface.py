"""The interface: each listed name stands in its file, with the listed arguments, and each listed method in its class."""

import importlib
import inspect
import unittest

CLASSES = {
    "errors": {"RunError": {"__init__": "word"}},
    "nodes": {
        "Node": {"__init__": "number, tag, text=''", "is_text": "", "attribute": "name", "class_words": "",
                 "element_children": "", "path": "", "all_nodes": "", "content": "", "shown": ""},
        "Document": {"__init__": "", "make": "tag, text=''", "node_of": "number", "append": "parent, child",
                     "place_before": "parent, child, place", "remove": "child", "set_attribute": "node, name, value",
                     "set_text": "node, text", "by_id": "name"},
    },
    "selectors": {
        "Simple": {"__init__": "tag, name, classes, attributes, states", "fits": "node", "weight": "", "shown": ""},
        "Selector": {"__init__": "first, rows", "fits": "node", "weight": "", "shown": ""},
        "SelectorReader": {"__init__": "text", "here": "", "attribute": ""},
    },
    "styles": {
        "Declaration": {"__init__": "name, value, important", "shown": ""},
        "Rule": {"__init__": "selectors, declarations, least=None, most=None", "holds": "width", "shown": ""},
    },
    "boxes": {
        "Piece": {"__init__": "kind, text, node, width", "shown": ""},
        "Box": {"__init__": "node, values"},
    },
}
FUNCTIONS = {
    "markup": {"with_entities": "text", "escaped": "text", "parse_markup": "text", "markup_of": "node", "inner_markup": "node"},
    "selectors": {"has_state": "node, state", "element_before": "node", "parse_selectors": "text", "simple_text": "simple",
                  "selector_text": "selector", "find_all": "root, text"},
    "values": {"all_names": "", "initial": "name", "is_number": "text", "length_of": "name, text", "value_of": "name, text",
               "expanded": "name, text", "value_text": "value", "resolved": "value, whole"},
    "styles": {"without_remarks": "text", "declarations_of": "text", "block_at": "text, place", "width_of": "text",
               "parse_styles": "text", "declaration_text": "declaration", "rule_text": "rule", "styles_text": "rules"},
    "cascade": {"own_styles": "node", "inline_declarations": "node", "ranked": "node, rules, width",
                "with_names": "value, name, names", "computed": "node, above, rules, width", "adjusted": "found",
                "styles_of": "document, rules, width"},
    "boxes": {"transformed": "text, word", "shown_value": "node", "kept_pieces": "text, node"},
}


class Interface(unittest.TestCase):
    def test_functions(self):
        for file, rows in FUNCTIONS.items():
            module = importlib.import_module("pagestack." + file)
            for name, arguments in rows.items():
                function = getattr(module, name)
                self.assertEqual(function.__module__, module.__name__)
                self.assertEqual(str(inspect.signature(function)), f"({arguments})", name)

    def test_classes(self):
        for file, kinds in CLASSES.items():
            module = importlib.import_module("pagestack." + file)
            for name, methods in kinds.items():
                kind = getattr(module, name)
                self.assertEqual(kind.__module__, module.__name__)
                for method, arguments in methods.items():
                    self.assertIn(method, vars(kind), name)
                    told = str(inspect.signature(vars(kind)[method]))
                    self.assertEqual(told, f"(self, {arguments})".replace(", )", ")"), f"{name}.{method}")


if __name__ == "__main__":
    unittest.main()
