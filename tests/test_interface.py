"""The interface of the document: its names, where they are defined, and their arguments."""

import inspect
import unittest
from importlib import import_module

from revokelog.errors import BadValue, LogError
from revokelog.journals import RULES, Journal
from revokelog.layouts import Layout, new_disk
from revokelog.stores import Store

FUNCTIONS = {
    "disks": {"crash_choices": "(disk)"},
    "layouts": {"new_disk": "(layout)"},
    "records": {
        "records_of": "(number, copies, revokes)", "slots_needed": "(copies, revokes)",
        "transaction_at": "(layout, disk, number, slot)",
    },
    "journals": {"needed": "(journal)"},
    "recovery": {
        "scan": "(layout, disk)", "revoked": "(transactions)", "replay": "(transactions)", "recover": "(layout, disk)",
    },
    "crashes": {
        "open_store": "(layout, disk)", "crashed_store": "(store, kept, *, many=None)",
        "last_committed": "(layout, disk)", "all_crashes": "(store, *, many=None)",
    },
    "rules": {"harm": "(rule)", "shows_harm": "(rule, paper)"},
    "runs": {"run": "(store, steps)", "trees": "(layout, steps)"},
}

CLASSES = {
    ("disks", "Disk"): {
        "__init__": "(self, blocks)", "blocks": "(self)", "read": "(self, block)", "write": "(self, block, value)",
        "flush": "(self)", "pending": "(self)", "events": "(self)", "durable": "(self)", "after": "(self, many)",
        "crashed": "(self, kept)",
    },
    ("layouts", "Layout"): {
        "__init__": "(self, slots, homes)", "slots": "(self)", "homes": "(self)", "disk_size": "(self)",
        "slot_block": "(self, slot)", "home_block": "(self, home)", "__eq__": "(self, other)", "__repr__": "(self)",
    },
    ("journals", "Journal"): {
        "__init__": "(self, layout, disk, *, without=None)", "log": "(self, home, value)", "revoke": "(self, home)",
        "running": "(self)", "commit": "(self)", "kept": "(self)", "numbers": "(self)", "free_slots": "(self)",
        "value": "(self, home)", "checkpoint": "(self)",
    },
    ("stores", "Store"): {
        "__init__": "(self, layout, *, without=None)", "layout": "(self)", "disk": "(self)", "journal": "(self)",
        "make": "(self, path)", "put": "(self, path, values)", "remove": "(self, path)", "move": "(self, path, goal)",
        "names": "(self, path)", "get": "(self, path)", "tree": "(self)", "commit": "(self)", "checkpoint": "(self)",
    },
}

FIELDS = {
    "BadLayout": ["why"], "BadBlock": ["block"], "BadValue": [], "BadCount": ["count"], "BadChoice": ["at"],
    "TooMany": ["limit"], "NoSpace": ["needed", "free"], "BadPath": ["path"], "NoEntry": ["path"], "HasEntry": ["path"],
    "NotEmpty": ["path"], "NoRoom": ["needed", "free"], "BadRule": ["rule"], "BadStep": ["at"],
}


class InterfaceTest(unittest.TestCase):
    def test_functions(self):
        for file, functions in FUNCTIONS.items():
            module = import_module("revokelog." + file)
            for name, arguments in functions.items():
                function = getattr(module, name)
                with self.subTest(name):
                    self.assertTrue(inspect.isfunction(function))
                    self.assertEqual(function.__module__, module.__name__)
                    self.assertEqual(str(inspect.signature(function)), arguments)

    def test_classes(self):
        for (file, name), methods in CLASSES.items():
            module = import_module("revokelog." + file)
            made = getattr(module, name)
            self.assertEqual(made.__module__, module.__name__)
            for method, arguments in methods.items():
                with self.subTest(name, method=method):
                    # In the class itself, not in a base class.
                    self.assertEqual(str(inspect.signature(vars(made)[method])), arguments)

    def test_errors(self):
        module = import_module("revokelog.errors")
        self.assertEqual(LogError.__bases__, (ValueError,))
        for name, fields in FIELDS.items():
            made = getattr(module, name)
            with self.subTest(name):
                self.assertEqual((made.__module__, made.__bases__), (module.__name__, (LogError,)))
                values = [object() for _ in fields]
                error = made(*values)
                self.assertEqual([getattr(error, field) for field in fields], values)
        self.assertIs(type(BadValue().why), str)

    def test_constants_and_fields(self):
        self.assertIs(type(RULES), tuple)
        self.assertEqual(
            RULES, ("revoke", "cancel", "drop", "reuse", "forget", "commit", "settle", "tail", "header"))
        layout = Layout(8, 4)
        disk = new_disk(layout)
        journal = Journal(layout, disk, without="tail")
        self.assertIs(journal.plan, layout)
        self.assertIs(journal.medium, disk)
        self.assertEqual(journal.without, "tail")
        self.assertEqual(Store(layout, without="tail").journal().without, "tail")


if __name__ == "__main__":
    unittest.main()
