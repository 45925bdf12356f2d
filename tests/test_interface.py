"""The interface: each name, with its arguments as they are written, in the module and the class that has it."""

import inspect
import unittest

from growjoin import cells, chains, ends, house, joins, orders, roads, texts

FUNCTIONS = {
    joins: {
        "is_kind": "(thing)", "is_worth": "(kind, thing)", "bottom": "(kind)", "join": "(kind, one, other)",
        "lack": "(kind, one, other)", "under": "(kind, one, other)", "pieces": "(kind, worth)",
    },
    chains: {
        "wrong": "(kind, hands, history)", "chain": "(kind, history)", "askings": "(kind, history)",
    },
    roads: {
        "play": "(house, numbers)", "drive": "(house, wishes, *, most=2000)",
    },
    orders: {
        "ties": "(history)", "strange": "(history)", "order": "(history)", "ring": "(history)",
        "is_order": "(history, row)",
    },
    ends: {
        "ends": "(kind, ones, others)", "way": "(kind, ones, others, end)",
    },
    texts: {
        "show_kind": "(kind)", "show_worth": "(kind, worth)", "read_kind": "(text)", "read_worth": "(kind, text)",
    },
}
METHODS = {
    house.House: {
        "__init__": "(self, kind, hands)", "wish": "(self, hand, worth)", "again": "(self, hand)", "hands": "(self)",
        "deliver": "(self, number)", "fall": "(self, hand)", "kind": "(self)", "held": "(self, hand)",
        "purse": "(self, hand)", "asks": "(self, hand)", "told": "(self, hand)", "letters": "(self)",
        "waiting": "(self)", "history": "(self)", "has_fallen": "(self, hand)",
    },
    cells.Cells: {
        "__init__": "(self, hands)", "write": "(self, hand, number)", "look": "(self, hand)", "again": "(self, hand)",
        "deliver": "(self, number)", "fall": "(self, hand)", "result": "(self, deed)", "letters": "(self)",
        "waiting": "(self)", "history": "(self)", "has_fallen": "(self, hand)",
    },
}


class Interface(unittest.TestCase):
    def test_functions(self):
        for module, functions in FUNCTIONS.items():
            for name, arguments in functions.items():
                found = vars(module)[name]
                self.assertEqual(str(inspect.signature(found)), arguments, name)
                self.assertEqual(found.__module__, module.__name__)

    def test_methods_stand_in_their_class(self):
        for made, methods in METHODS.items():
            for name, arguments in methods.items():
                self.assertEqual(str(inspect.signature(vars(made)[name])), arguments, name)


if __name__ == "__main__":
    unittest.main()
