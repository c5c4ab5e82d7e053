"""The names and arguments of the interface, and the file in which each is defined."""

import importlib
import inspect
import unittest

from pageclass.systems import System

FUNCTIONS = {
    "systems": {
        "now": "(system)",
        "spawn": "(system)",
        "fork": "(system, process)",
        "leave": "(system, process)",
        "fresh": "(system, process)",
        "processes": "(system)",
    },
    "spaces": {
        "map_pages": "(system, process, count, *, rights='rw', shared=False, source=None, index=0, at=None)",
        "unmap": "(system, process, first, count)",
        "protect": "(system, process, first, count, rights)",
        "flag": "(system, process, first, count, *, merge=None, stay=None, wipe=None)",
        "move": "(system, process, first, count, to)",
        "regions": "(system, process)",
        "gap": "(system, process, count)",
        "widest": "(system, process)",
    },
    "access": {
        "read": "(system, process, address)",
        "write": "(system, process, address, value)",
        "need": "(system, process, first, count)",
        "drop": "(system, process, first, count)",
    },
    "files": {
        "create": "(system, name, count)",
        "files": "(system)",
        "size": "(system, name)",
        "read_page": "(system, name, index)",
        "write_page": "(system, name, index, content)",
        "truncate": "(system, name, count)",
        "sync": "(system, name)",
        "drop_cache": "(system)",
        "disk": "(system, name)",
        "crash": "(system)",
    },
    "merging": {
        "merge": "(system)",
    },
    "sharing": {
        "count": "(system)",
        "same": "(system, one, other)",
        "users": "(system, place)",
        "next_write": "(system, place)",
        "writes_of": "(system, places)",
    },
    "exits": {
        "share": "(system, process)",
        "frees": "(system, some)",
        "least_exits": "(system, count)",
        "exits_for": "(system, count)",
    },
    "positions": {
        "position": "(system, place)",
        "at_position": "(system, number)",
        "faults": "(system, frames)",
        "least_frames": "(system, count)",
        "swap_outs": "(system, frames)",
        "write_backs": "(system, frames)",
        "least_slots": "(system, frames)",
        "disk_if": "(system, frames, name)",
        "distances": "(system)",
        "fits": "(system, log)",
        "working": "(system, count)",
    },
    "choices": {
        "best_faults": "(system, frames)",
    },
    "memory": {
        "in_memory": "(system, place)",
        "counts": "(system)",
    },
    "locks": {
        "lock": "(system, process, first, count)",
        "unlock": "(system, process, first, count)",
    },
    "pictures": {
        "stamp": "(system, place)",
        "origin": "(system, place)",
        "changed": "(system, process, since)",
        "picture": "(system, process)",
        "increment": "(system, process, since)",
        "compose": "(picture, increment)",
    },
    "families": {
        "family": "(system, some)",
        "restore": "(system, family)",
    },
    "steps": {
        "run": "(system, steps)",
    },
    "charges": {
        "charge": "(system)",
        "reserve": "(system)",
        "reserve_of": "(system, process)",
        "forks_that_fit": "(system, process)",
    },
}


class Interface(unittest.TestCase):

    def test_the_functions_and_their_parameters(self):
        for file, functions in FUNCTIONS.items():
            module = importlib.import_module("pageclass." + file)
            for name, parameters in functions.items():
                function = getattr(module, name)
                self.assertEqual(str(inspect.signature(function)), parameters, name)
                self.assertEqual(function.__module__, module.__name__)

    def test_system(self):
        self.assertEqual(str(inspect.signature(System)), "(*, frames=None, slots=None, strict=False)")
        self.assertEqual(System.__module__, "pageclass.systems")

    def test_errors_stand_in_their_file(self):
        from pageclass.errors import NoPages
        self.assertEqual(NoPages.__module__, "pageclass.errors")


if __name__ == "__main__":
    unittest.main()
