"""Long rows of random steps, beside a plain model that copies all contents at each fork.

The model does a step on a copy of itself, counts charge and classes there from the beginning, and
keeps the copy only if nothing forbids the step: so it shares no shortcut with the program.
"""

import copy
import random
import unittest

from pageclass import errors
from pageclass.access import drop, need, read, write
from pageclass.spaces import flag, gap, map_pages, move, protect, regions, unmap, widest
from pageclass.systems import System, fork, fresh, leave, now, processes, spawn
from support import VALUES, cells, give_file, give_lock, snapshot, touched

STEPS = {step.__name__: step for step in (spawn, fork, leave, fresh, map_pages, unmap, protect, flag, move, read,
                                          write, need, drop)}
FILES = {"f": [(1, 2, 3, 4), (0, 0, 0, 0), (5, 6, 7, 8)], "g": []}


class Refused(Exception):

    def __init__(self, name, value=None):
        Exception.__init__(self, name)
        self.name = name
        self.value = value


def whole(value, low, high):
    return type(value) is int and low <= value <= high


class Model:
    """A page is a dict with its attributes, "cells" (None if untouched) and "key" (equal for the same class)."""

    def __init__(self, frames, slots, strict):
        self.limit = None if frames is None or slots is None else frames + slots
        self.strict = strict
        self.tables = {}
        self.written = {}
        self.files = copy.deepcopy(FILES)
        self.now = self.processes = self.objects = self.keys = 0
        self.touched = []

    def perform(self, name, *args, **named):
        trial = copy.deepcopy(self)
        result = getattr(trial, name)(*args, **named)
        for key in list(trial.written):
            if key not in trial.shown_objects():
                del trial.written[key]
        if name in ("map_pages", "protect", "fork") and self.strict:
            if trial.charge() > max(self.limit, self.charge()):
                raise Refused("NoCharge")
        if name == "write" and self.limit is not None and trial.kept() > self.limit:
            raise Refused("NoRoom")
        trial.now += 1
        vars(self).update(vars(trial))
        return result

    def pages(self):
        return [page for table in self.tables.values() for page in table.values()]

    def shown_objects(self):
        return {(page["source"], page["index"]) for page in self.pages()}

    def classes(self):
        return {page["key"] for page in self.pages()} - {None}

    def kept(self):
        return len(self.classes()) + len(self.written)

    def charge(self):
        total = 0
        for key in self.classes():
            rights = [page["rights"] for page in self.pages() if page["key"] == key]
            total += rights.count("rw") + (set(rights) != {"rw"})
        for key in self.shown_objects():
            if key[0] is not None and key[0][0] == "object":
                rights = [page["rights"] for page in self.pages() if (page["source"], page["index"]) == key]
                total += key in self.written or "rw" in rights
        for page in self.pages():
            total += (not page["shared"] and page["key"] is None and page["rights"] == "rw"
                      and self.content(page) is not None)
        return total

    def content(self, page):
        """What a page shows, or None."""
        if page["cells"] is not None:
            return page["cells"]
        source, index = page["source"], page["index"]
        if source is None:
            return (0, 0, 0, 0)
        if source[0] == "object":
            return self.written.get((source, index), (0, 0, 0, 0))
        return self.files[source[1]][index] if index < len(self.files[source[1]]) else None

    def touch(self, page):
        source = page["source"]
        if page["cells"] is not None:
            self.touched.append("private")
        elif source is not None and self.content(page) is not None:
            if source[0] == "file" or (source, page["index"]) in self.written:
                self.touched.append(source + (page["index"],))

    def table(self, process):
        if type(process) is not int or process not in self.tables:
            raise Refused("NoProcess", process)
        return self.tables[process]

    def check(self, valid, part):
        if not valid:
            raise Refused("NoPages", part)

    def range(self, first, count):
        self.check(whole(first, 0, 511), "first")
        self.check(whole(count, 1, 512 - first), "count")
        return range(first, first + count)

    def mapped(self, table, numbers):
        for number in numbers:
            if number not in table:
                raise Refused("NotMapped", number)

    def unlocked(self, table, numbers):
        for number in numbers:
            if "lock" in table[number]["flags"]:
                raise Refused("NoLock", number)

    def spawn(self):
        self.processes += 1
        self.tables[self.processes] = {}
        return self.processes

    def fork(self, process):
        table = self.table(process)
        child = self.spawn()
        for number, page in table.items():
            if "stay" not in page["flags"]:
                self.tables[child][number] = dict(page, flags=page["flags"] - {"lock"})
                if "wipe" in page["flags"]:
                    self.tables[child][number].update(cells=None, key=None)
        return child

    def leave(self, process):
        self.table(process)
        del self.tables[process]

    def fresh(self, process):
        self.table(process).clear()

    def map_pages(self, process, count, *, rights="rw", shared=False, source=None, index=0, at=None):
        table = self.table(process)
        self.check(whole(count, 1, 512), "count")
        self.check(rights in ("none", "r", "rw"), "rights")
        self.check(type(shared) is bool, "shared")
        if source is not None and source[0] == "file":
            if source[1] not in self.files:
                raise Refused("NoFile", source[1])
        elif source is not None:
            self.check(shared and source in [page["source"] for page in self.pages()], "source")
        self.check(whole(index, 0, 512 - count) and (index == 0 or source is not None), "index")
        if at is None:
            at = self.gap(table, count)
        self.check(whole(at, 0, 512 - count), "at")
        if shared and source is None:
            self.objects += 1
            source = ("object", self.objects)
        for k in range(count):
            table[at + k] = {"rights": rights, "shared": shared, "source": source, "flags": frozenset(),
                             "index": None if source is None else index + k, "cells": None, "key": None}
        return at

    def gap(self, table, count):
        for first in range(513 - count):
            if not any(first + k in table for k in range(count)):
                return first
        return None

    def unmap(self, process, first, count):
        table = self.table(process)
        for number in self.range(first, count):
            table.pop(number, None)

    def protect(self, process, first, count, rights):
        table = self.table(process)
        numbers = self.range(first, count)
        self.check(rights in ("none", "r", "rw"), "rights")
        self.mapped(table, numbers)
        if rights != "rw":
            self.unlocked(table, numbers)
        for number in numbers:
            table[number]["rights"] = rights

    def flag(self, process, first, count, **flags):
        table = self.table(process)
        numbers = self.range(first, count)
        for name in ("merge", "stay", "wipe"):
            self.check(flags.get(name) in (None, False, True), name)
        self.mapped(table, numbers)
        for number in numbers:
            for name, value in flags.items():
                if value is not None:
                    old = table[number]["flags"]
                    table[number]["flags"] = old | {name} if value else old - {name}

    def move(self, process, first, count, to):
        table = self.table(process)
        numbers = self.range(first, count)
        self.check(whole(to, 0, 512 - count) and not set(numbers) & set(range(to, to + count)), "to")
        self.mapped(table, numbers)
        for number in numbers:
            table[to + number - first] = table.pop(number)

    def access(self, process, address, rights):
        number = address // 4
        table = self.tables[process]
        self.mapped(table, [number])
        if table[number]["rights"] not in rights:
            raise Refused("NoRight", number)
        if self.content(table[number]) is None:
            raise Refused("PastEnd", number)
        return table[number]

    def read(self, process, address):
        self.table(process)
        self.check(whole(address, 0, 2047), "address")
        page = self.access(process, address, ("r", "rw"))
        self.touch(page)
        return self.content(page)[address % 4]

    def write(self, process, address, value):
        self.table(process)
        self.check(whole(address, 0, 2047), "address")
        self.check(whole(value, 0, 255), "value")
        page = self.access(process, address, ("rw",))
        new = list(self.content(page))
        new[address % 4] = value
        if page["shared"]:
            self.write_shared(page, tuple(new))
        else:
            self.write_private(page, tuple(new))
        self.touch(page)

    def write_shared(self, page, new):
        if page["source"][0] == "object":
            self.written[(page["source"], page["index"])] = new
        else:
            self.files[page["source"][1]][page["index"]] = new

    def write_private(self, page, new):
        if page["key"] is None or [other["key"] for other in self.pages()].count(page["key"]) > 1:
            self.touch(page)
            self.keys += 1
            page["key"] = self.keys
        page["cells"] = new

    def need(self, process, first, count):
        table = self.table(process)
        numbers = self.range(first, count)
        self.mapped(table, numbers)
        for number in numbers:
            if table[number]["rights"] != "none":
                self.touch(table[number])

    def drop(self, process, first, count):
        table = self.table(process)
        numbers = self.range(first, count)
        self.mapped(table, numbers)
        self.unlocked(table, numbers)
        for number in numbers:
            table[number].update(cells=None, key=None)

    def regions(self, process):
        rows = []
        table = self.tables[process]
        for number in sorted(table):
            page = table[number]
            flags = tuple(sorted(page["flags"]))
            row = [number, 1, page["rights"], page["shared"], page["source"], page["index"], flags]
            last = rows[-1] if rows else None
            if last is not None and last[0] + last[1] == number and last[2:5] == row[2:5] and last[6] == flags:
                if page["source"] is None or last[5] + last[1] == page["index"]:
                    last[1] += 1
                    continue
            rows.append(row)
        return [tuple(row) for row in rows]

    def widest(self, process):
        return max([count for count in range(1, 513) if self.gap(self.tables[process], count) is not None], default=0)


class Draw:
    """Random steps over few pages, at both ends of the space; now and then an argument is invalid."""

    def __init__(self, seed):
        self.random = random.Random(seed)

    def one(self, *choices):
        return self.random.choice(choices)

    def page(self, table):
        if table and self.random.random() < 0.9:
            return self.random.choice(sorted(table))
        return self.one(0, 0, 1, 1, 2, 3, 4, 5, 510, 511) if self.random.random() < 0.98 else self.one(-1, 512, True)

    def address(self, table):
        if self.random.random() < 0.02:
            return self.one(-1, 2048, None)
        return 4 * self.page(table) + self.one(0, 1, 2, 3)

    def process(self, living, made):
        if living and self.random.random() < 0.97:
            return self.random.choice(living)
        return self.one(0, made, made + 1, None, True)

    def source(self, objects):
        number = self.random.randint(0, objects + 1)
        return self.one(None, None, None, None, ("file", "f"), ("file", "f"), ("file", "g"), ("file", "h"),
                        ("object", number), ("object", objects))

    def mapping(self, objects, table):
        named = {"rights": self.one("rw", "rw", "rw", "rw", "rw", "r", "none"), "shared": self.one(False, True),
                 "source": self.source(objects)}
        if self.random.random() < 0.3:
            named["index"] = self.one(0, 0, 1, 2, 509, 512)
        if self.random.random() < 0.7:
            named["at"] = self.page(table if self.random.random() < 0.3 else None)
        return (self.one(1, 1, 2, 3, 4, 5),), named

    def step(self, model):
        living = sorted(model.tables)
        often = ["map_pages"] * 6 + ["write"] * 10 + ["read"] * 4 + ["fork"] * 2
        name = self.one(*often, "unmap", "protect", "protect", "flag", "flag", "move", "need", "drop")
        if self.random.random() < 0.02 or len(living) > 5:
            name = self.one("leave", "fresh", "unmap")
        if self.random.random() < 0.02 or not living:
            return "spawn", (), {}
        process = self.process(living, model.processes)
        if process in living and not model.tables[process] and self.random.random() < 0.8:
            name = "map_pages"
        return (name,) + self.arguments(name, process, model)

    def arguments(self, name, process, model):
        table = None if process is None else model.tables.get(process)
        if name == "map_pages":
            args, named = self.mapping(model.objects, table)
            return (process,) + args, named
        if name == "read":
            return (process, self.address(table)), {}
        if name == "write":
            return (process, self.address(table), self.one(0, 1, 2, 3, 4, 255, self.one(256, 7, True))), {}
        if name in ("fork", "fresh", "leave"):
            return (process,), {}
        args = (process, self.page(table), self.one(1, 1, 1, 2, 3))
        if name == "protect":
            args += (self.one("rw", "rw", "rw", "r", "none", "x"),)
        if name == "move":
            args += (self.page(table if self.random.random() < 0.5 else None),)
        named = {}
        if name == "flag":
            for word in ("merge", "stay", "wipe"):
                if self.random.random() < 0.4:
                    named[word] = self.one(True, False, None)
        return args, named


def outcome(step, *args, **named):
    """What a step of the program does: its result, or its error with its value."""
    try:
        return "gives", step(*args, **named)
    except errors.PageError as error:
        name = error.__class__.__name__
        return name, getattr(error, VALUES[name]) if name in VALUES else None


def expected(model, name, args, named):
    try:
        return "gives", model.perform(name, *args, **named)
    except Refused as error:
        return error.name, error.value


class RandomSteps(unittest.TestCase):

    def compare(self, system, model):
        self.assertEqual((now(system), processes(system)), (model.now, sorted(model.tables)))
        for process, table in model.tables.items():
            self.assertEqual(regions(system, process), model.regions(process))
            self.assertEqual([cells(system, process, number) for number in sorted(table)],
                             [model.content(table[number]) for number in sorted(table)])
        self.assertEqual(len(system.classes), model.kept())
        self.assertEqual(touched(system), model.touched)

    def lock_one(self, draw, system, model):
        """Lock a page, as a later step could have done."""
        able = [(process, number) for process, table in model.tables.items() for number, page in table.items()
                if page["key"] is not None and page["rights"] == "rw" and "lock" not in page["flags"]]
        if able:
            process, number = draw.random.choice(sorted(able))
            give_lock(system, process, number)
            model.tables[process][number]["flags"] |= {"lock"}

    def run_steps(self, seed, steps, **named):
        draw = Draw(seed)
        system = System(**named)
        model = Model(named.get("frames"), named.get("slots"), named.get("strict", False))
        for name, contents in FILES.items():
            give_file(system, name, contents)
        seen = {}
        for _ in range(steps):
            name, args, kept = draw.step(model)
            before = snapshot(system)
            want = expected(model, name, args, kept)
            self.assertEqual(outcome(STEPS[name], system, *args, **kept), want, (seed, name, args, kept))
            if want[0] != "gives":
                self.assertEqual(snapshot(system), before)
            seen[want[0]] = seen.get(want[0], 0) + 1
            if draw.random.random() < 0.15:
                self.lock_one(draw, system, model)
            self.compare(system, model)
        for process in sorted(model.tables):
            self.assertEqual(widest(system, process), model.widest(process))
            for count in (1, 2, 3, 500, 511, 512):
                self.assertEqual(gap(system, process, count), model.gap(model.tables[process], count))
        return seen

    def run_all(self, seeds, **named):
        seen = {}
        for seed in seeds:
            for name, times in self.run_steps(seed, 150, **named).items():
                seen[name] = seen.get(name, 0) + times
        return seen

    def test_without_limits(self):
        seen = self.run_all(range(30))
        for name in ("NoProcess", "NoPages", "NotMapped", "NoRight", "PastEnd", "NoFile", "NoLock"):
            self.assertIn(name, seen)
        self.assertNotIn("NoRoom", seen)
        self.assertNotIn("NoCharge", seen)

    def test_with_little_room(self):
        seen = self.run_all(range(100, 120), frames=2, slots=3)
        self.assertIn("NoRoom", seen)
        self.assertNotIn("NoCharge", seen)

    def test_strict(self):
        seen = self.run_all(range(200, 230), frames=4, slots=5, strict=True)
        self.assertIn("NoCharge", seen)
        self.assertNotIn("NoRoom", seen)


if __name__ == "__main__":
    unittest.main()
