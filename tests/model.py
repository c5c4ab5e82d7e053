"""A plain model of a system, which copies the contents of all written pages at each fork.

It does a step on a copy of itself, counts charge, classes and users there from the beginning, and
keeps the copy only if nothing forbids the step; its row of positions is that of 7.2, hole by hole.
So it shares no shortcut with the program.
"""

import itertools
from fractions import Fraction

ZEROS = (0, 0, 0, 0)


class Refused(Exception):

    def __init__(self, name, value=None):
        Exception.__init__(self, name)
        self.name = name
        self.value = value


def whole(value, low, high):
    return type(value) is int and low <= value <= high


class Model:
    """A page is a dict with its attributes, "cells" (None if untouched), "key" (equal for the same class) and "stamp".

    An item is ("private", key), ("object", number, index) or ("file", name, index).
    """

    def __init__(self, frames=None, slots=None, strict=False):
        self.frames = frames
        self.slots = slots
        self.limit = None if frames is None or slots is None else frames + slots
        self.strict = strict
        self.tables = {}
        self.written = {}
        self.files = {}
        self.disk = {}
        self.row = []
        self.locked = []
        self.memory = set()
        self.dirty = set()
        self.lives = {}
        self.origins = {}
        self.touched = []
        self.log = []
        self.counts = {"faults": 0, "swap_outs": 0, "write_backs": 0}
        self.most_slots = self.most_locked = 0
        self.crashed = self.merged = False
        self.parents = {}
        self.now = self.processes = self.objects = self.keys = 0

    def copy(self):
        other = Model(self.frames, self.slots, self.strict)
        vars(other).update(vars(self))
        other.tables = {process: {number: dict(page) for number, page in table.items()}
                        for process, table in self.tables.items()}
        other.written = dict(self.written)
        other.files = {name: list(pages) for name, pages in self.files.items()}
        other.disk = {name: list(pages) for name, pages in self.disk.items()}
        other.row = list(self.row)
        other.locked = list(self.locked)
        other.origins = dict(self.origins)
        other.memory = set(self.memory)
        other.dirty = set(self.dirty)
        other.lives = dict(self.lives)
        other.parents = dict(self.parents)
        other.counts = dict(self.counts)
        other.touched = []
        return other

    def perform(self, name, *args, **named):
        """Do a step, or raise Refused; touched tells afterwards what this step touched."""
        trial = self.copy()
        result = getattr(trial, name)(*args, **named)
        trial.clear_away()
        if name in ("map_pages", "protect", "fork", "truncate", "restore") and self.strict:
            if trial.charge() > max(self.limit, self.charge()):
                raise Refused("NoCharge")
        if name in ("write", "lock", "restore"):
            if self.limit is not None and trial.kept() > self.limit:
                raise Refused("NoRoom")
        if name == "write":
            result = None
        trial.most_locked = max(self.most_locked, trial.locked_pages())
        trial.now += 1
        trial.log = self.log + trial.touched
        vars(self).update(vars(trial))
        return result

    def clear_away(self):
        """What nobody uses any more is gone."""
        shown = self.shown_objects()
        self.written = {key: cells for key, cells in self.written.items() if key in shown}
        items = self.items()
        self.row = [item if item in items else None for item in self.row]
        self.memory &= items
        self.dirty &= items
        self.origins = {item: step for item, step in self.origins.items() if item in items}
        holders = {("private", page["key"]): "lock" in page["flags"] for page in self.pages() if page["key"] is not None}
        holders.update({("private", page["key"]): True for page in self.pages() if "lock" in page["flags"]})
        stay = [item for item in self.locked if holders.get(item)]
        loose = [item for item in self.locked if holders.get(item) is False]
        self.row[:len(self.locked)] = (stay + loose + [None] * len(self.locked))[:len(self.locked)]
        self.locked = stay
        self.lives = {item: self.lives[item] if item in self.lives else self.now for item in items}

    def items(self):
        return ({("private", key) for key in self.classes()} | {key[0] + (key[1],) for key in self.written}
                | {("file", name, index) for name, pages in self.files.items() for index in range(len(pages))})

    def pages(self):
        return [page for table in self.tables.values() for page in table.values()]

    def shown_objects(self):
        return {(page["source"], page["index"]) for page in self.pages()}

    def classes(self):
        return {page["key"] for page in self.pages()} - {None}

    def kept(self):
        return len(self.classes()) + len(self.written)

    def charge(self):
        total = 0
        for key in self.classes():
            rights = [page["rights"] for page in self.pages() if page["key"] == key]
            total += rights.count("rw") + (set(rights) != {"rw"})
        for key in self.shown_objects():
            if key[0] is not None and key[0][0] == "object":
                rights = [page["rights"] for page in self.pages() if (page["source"], page["index"]) == key]
                total += key in self.written or "rw" in rights
        for page in self.pages():
            total += (not page["shared"] and page["key"] is None and page["rights"] == "rw"
                      and self.content(page) is not None)
        return total

    def content(self, page):
        """What a page shows, or None."""
        if page["cells"] is not None:
            return page["cells"]
        source, index = page["source"], page["index"]
        if source is None:
            return ZEROS
        if source[0] == "object":
            return self.written.get((source, index), ZEROS)
        return self.files[source[1]][index] if index < len(self.files[source[1]]) else None

    def item(self, page):
        """The item that a page shows, or None."""
        if page["key"] is not None:
            return "private", page["key"]
        source, index = page["source"], page["index"]
        if source is None or source[0] == "object" and (source, index) not in self.written:
            return None
        if source[0] == "file" and index >= len(self.files[source[1]]):
            return None
        return source + (index,)

    # Positions and memory

    def position(self, item):
        return self.row.index(item) + 1 if item is not None and item in self.row else None

    def touch(self, item):
        """Touch an item; touched has each one with its position, and what tells whether it is the same one later."""
        position = self.position(item)
        self.touched.append((item, position, self.lives.get(item, self.now)))
        if item not in self.memory:
            self.counts["faults"] += position is not None
            self.come(item)
        if item not in self.locked:
            if position is not None:
                self.row[position - 1] = None
            first = len(self.locked)
            hole = self.row.index(None, first) if None in self.row[first:] else len(self.row)
            self.row[first:hole + 1] = [item] + self.row[first:hole]
        self.most_slots = max(self.most_slots, len([other for other in self.row if self.has_slot(other)]))
        if self.slots is None and self.frames is not None:
            assert self.memory == set(self.row[:self.frames]) - {None}

    def has_slot(self, item):
        return item is not None and item[0] != "file" and item not in self.memory

    def come(self, item):
        if self.frames is not None and len(self.memory) >= self.frames:
            outside = [other for other in self.row if self.has_slot(other) and other != item]
            for other in reversed(self.row):
                if other in self.memory and other not in self.locked:
                    if other[0] == "file" or self.slots is None or len(outside) < self.slots:
                        self.leave_memory(other)
                        break
            else:
                return
        self.memory.add(item)

    def leave_memory(self, item):
        self.memory.remove(item)
        self.counts["swap_outs"] += item[0] != "file"
        self.write_back(item)

    def write_back(self, item):
        if item in self.dirty:
            self.dirty.remove(item)
            self.disk[item[1]][item[2]] = self.files[item[1]][item[2]]
            self.counts["write_backs"] += 1

    def change_file_page(self, item, cells):
        self.files[item[1]][item[2]] = cells
        self.dirty.add(item)
        if item not in self.memory:
            self.write_back(item)
        self.mark_written(item)

    def mark(self, *pages):
        for page in pages:
            page["stamp"] = self.now + 1

    def mark_written(self, item):
        self.origins[item] = self.now + 1
        self.mark(*[page for page in self.pages() if self.item(page) == item])

    # Arguments

    def table(self, process):
        if type(process) is not int or process not in self.tables:
            raise Refused("NoProcess", process)
        return self.tables[process]

    def check(self, valid, part):
        if not valid:
            raise Refused("NoPages", part)

    def file(self, name):
        if type(name) is not str or name not in self.files:
            raise Refused("NoFile", name)
        return self.files[name]

    def range(self, first, count):
        self.check(whole(first, 0, 511), "first")
        self.check(whole(count, 1, 512 - first), "count")
        return range(first, first + count)

    def mapped(self, table, numbers):
        for number in numbers:
            if number not in table:
                raise Refused("NotMapped", number)

    def unlocked(self, table, numbers):
        for number in numbers:
            if "lock" in table[number]["flags"]:
                raise Refused("NoLock", number)

    # Processes and regions

    def spawn(self):
        self.processes += 1
        self.tables[self.processes] = {}
        return self.processes

    def fork(self, process):
        table = self.table(process)
        child = self.spawn()
        self.parents[child] = (process, self.now + 1)
        for number, page in table.items():
            if "stay" not in page["flags"]:
                self.tables[child][number] = dict(page, flags=page["flags"] - {"lock"})
                if "wipe" in page["flags"]:
                    self.tables[child][number].update(cells=None, key=None)
                    if not page["shared"]:
                        self.mark(self.tables[child][number])
        return child

    def leave(self, process):
        self.table(process)
        del self.tables[process]

    def fresh(self, process):
        self.table(process).clear()

    def map_pages(self, process, count, *, rights="rw", shared=False, source=None, index=0, at=None):
        table = self.table(process)
        self.check(whole(count, 1, 512), "count")
        self.check(rights in ("none", "r", "rw"), "rights")
        self.check(type(shared) is bool, "shared")
        if source is not None and source[0] == "file":
            self.file(source[1])
        elif source is not None:
            self.check(shared and source in [page["source"] for page in self.pages()], "source")
        self.check(whole(index, 0, 512 - count) and (index == 0 or source is not None), "index")
        if at is None:
            at = self.gap(table, count)
        self.check(whole(at, 0, 512 - count), "at")
        if shared and source is None:
            self.objects += 1
            source = ("object", self.objects)
        for k in range(count):
            table[at + k] = {"rights": rights, "shared": shared, "source": source, "flags": frozenset(),
                             "index": None if source is None else index + k, "cells": None, "key": None,
                             "stamp": self.now + 1}
        return at

    def gap(self, table, count):
        for first in range(513 - count):
            if not any(first + k in table for k in range(count)):
                return first
        return None

    def unmap(self, process, first, count):
        table = self.table(process)
        for number in self.range(first, count):
            table.pop(number, None)

    def protect(self, process, first, count, rights):
        table = self.table(process)
        numbers = self.range(first, count)
        self.check(rights in ("none", "r", "rw"), "rights")
        self.mapped(table, numbers)
        if rights != "rw":
            self.unlocked(table, numbers)
        for number in numbers:
            table[number]["rights"] = rights

    def flag(self, process, first, count, **flags):
        table = self.table(process)
        numbers = self.range(first, count)
        for name in ("merge", "stay", "wipe"):
            self.check(flags.get(name) in (None, False, True), name)
        self.mapped(table, numbers)
        for number in numbers:
            for name, value in flags.items():
                if value is not None:
                    old = table[number]["flags"]
                    table[number]["flags"] = old | {name} if value else old - {name}

    def move(self, process, first, count, to):
        table = self.table(process)
        numbers = self.range(first, count)
        self.check(whole(to, 0, 512 - count) and not set(numbers) & set(range(to, to + count)), "to")
        self.mapped(table, numbers)
        for number in numbers:
            table[to + number - first] = table.pop(number)
            self.mark(table[to + number - first])

    # Contents

    def access(self, process, number, rights):
        table = self.tables[process]
        self.mapped(table, [number])
        if table[number]["rights"] not in rights:
            raise Refused("NoRight", number)
        if self.content(table[number]) is None:
            raise Refused("PastEnd", number)
        return table[number]

    def read(self, process, address):
        self.table(process)
        self.check(whole(address, 0, 2047), "address")
        page = self.access(process, address // 4, ("r", "rw"))
        if self.item(page) is not None:
            self.touch(self.item(page))
        return self.content(page)[address % 4]

    def write(self, process, address, value):
        """Write, and return what that did (5.3), which perform does not return."""
        self.table(process)
        self.check(whole(address, 0, 2047), "address")
        self.check(whole(value, 0, 255), "value")
        page = self.access(process, address // 4, ("rw",))
        new = list(self.content(page))
        new[address % 4] = value
        return (self.write_shared if page["shared"] else self.write_private)(page, tuple(new))

    def write_shared(self, page, new):
        key = (page["source"], page["index"])
        if page["source"][0] == "object":
            effect = "place" if key in self.written else "zeros"
            self.written[key] = new
            self.touch(self.item(page))
            self.mark_written(self.item(page))
            return effect
        self.touch(self.item(page))
        self.change_file_page(self.item(page), new)
        return "place"

    def write_private(self, page, new):
        effect = "place"
        old = self.item(page)
        if page["key"] is None or [other["key"] for other in self.pages()].count(page["key"]) > 1:
            effect = "zeros" if old is None else "file" if page["key"] is None else "copy"
            if old is not None:
                self.touch(old)
            self.keys += 1
            page["key"] = self.keys
        page["cells"] = new
        self.touch(self.item(page))
        if "lock" in page["flags"]:
            self.become_locked(page)
        self.origins[self.item(page)] = self.now + 1
        self.mark(page)
        return effect

    def become_locked(self, page):
        if self.item(page) not in self.locked:
            assert self.row[len(self.locked)] == self.item(page)
            self.locked.append(self.item(page))

    def locked_pages(self):
        return len([page for page in self.pages() if "lock" in page["flags"]])

    def lock(self, process, first, count):
        table = self.table(process)
        numbers = self.range(first, count)
        self.mapped(table, numbers)
        for number in numbers:
            if table[number]["shared"] or table[number]["rights"] != "rw":
                raise Refused("NoLock", number)
        for number in numbers:
            if self.content(table[number]) is None:
                raise Refused("PastEnd", number)
        many = self.locked_pages() + len([number for number in numbers if "lock" not in table[number]["flags"]])
        if self.frames is not None and many > self.frames - 1:
            raise Refused("NoLock", None)
        for number in numbers:
            self.lock_page(table[number])

    def lock_page(self, page):
        if page["key"] is None:
            old, content = self.item(page), self.content(page)
            if old is not None:
                self.touch(old)
            self.keys += 1
            page.update(key=self.keys, cells=content)
            self.origins[self.item(page)] = self.origins.get(old)
        self.touch(self.item(page))
        page["flags"] |= {"lock"}
        self.become_locked(page)

    def unlock(self, process, first, count):
        table = self.table(process)
        numbers = self.range(first, count)
        self.mapped(table, numbers)
        for number in numbers:
            table[number]["flags"] -= {"lock"}

    def need(self, process, first, count):
        table = self.table(process)
        numbers = self.range(first, count)
        self.mapped(table, numbers)
        for number in numbers:
            item = self.item(table[number])
            if table[number]["rights"] != "none" and item is not None:
                self.touch(item)

    def drop(self, process, first, count):
        table = self.table(process)
        numbers = self.range(first, count)
        self.mapped(table, numbers)
        self.unlocked(table, numbers)
        for number in numbers:
            table[number].update(cells=None, key=None)
            if not table[number]["shared"]:
                self.mark(table[number])

    # Files and merging

    def create(self, name, count):
        if type(name) is not str or not name.isascii() or not name.isalpha() or not name.islower() or len(name) > 8:
            raise Refused("NoFile", name)
        if name in self.files:
            raise Refused("Taken", name)
        self.check(whole(count, 0, 64), "count")
        self.files[name] = [ZEROS] * count
        self.disk[name] = [ZEROS] * count

    def read_page(self, name, index):
        pages = self.file(name)
        self.check(whole(index, 0, len(pages) - 1), "index")
        self.touch(("file", name, index))
        return pages[index]

    def write_page(self, name, index, content):
        pages = self.file(name)
        self.check(whole(index, 0, len(pages) - 1), "index")
        self.check(type(content) is tuple and len(content) == 4 and all(whole(cell, 0, 255) for cell in content),
                   "content")
        self.touch(("file", name, index))
        self.change_file_page(("file", name, index), content)

    def truncate(self, name, count):
        self.file(name)
        self.check(whole(count, 0, 64), "count")
        shown = [self.content(page) is None for page in self.pages()]
        for kept in (self.files, self.disk):
            kept[name] = (kept[name] + [ZEROS] * 64)[:count] if count > len(kept[name]) else kept[name][:count]
        self.mark(*[page for page, nothing in zip(self.pages(), shown) if nothing != (self.content(page) is None)])

    def sync(self, name):
        for index in range(len(self.file(name))):
            self.write_back(("file", name, index))

    def drop_cache(self):
        for name in self.files:
            self.sync(name)
        self.forget_file_pages()

    def crash(self):
        self.tables.clear()
        self.files = {name: list(pages) for name, pages in self.disk.items()}
        self.dirty = set()
        self.crashed = True
        self.origins = {}
        self.forget_file_pages()

    def forget_file_pages(self):
        self.memory = {item for item in self.memory if item[0] != "file"}
        self.row = [None if item is not None and item[0] == "file" else item for item in self.row]

    def merge(self):
        equal = {}
        for page in self.pages():
            if page["key"] is not None and "merge" in page["flags"]:
                equal.setdefault(page["cells"], set()).add(page["key"])
        gone = 0
        for keys in equal.values():
            self.merge_keys(keys)
            gone += len(keys) - 1
        self.merged = self.merged or gone > 0
        return gone

    def merge_keys(self, keys):
        """The key with the least position is left."""
        items = {("private", key) for key in keys}
        places = [at for at, item in enumerate(self.row) if item in items]
        left = self.row[places[0]][1]
        for page in self.pages():
            if page["key"] in keys:
                page["key"] = left
        for at in places:
            self.row[at] = None
        self.row[places[0]] = ("private", left)
        if self.memory & items:
            self.memory = self.memory - items | {("private", left)}
        greatest = max([self.origins[item] or 0 for item in items]) or None
        self.origins[("private", left)] = greatest

    # Families

    def family(self, some):
        """Copies of the tables, and of the object pages that they show."""
        tables = [{number: dict(page) for number, page in self.tables[process].items()} for process in some]
        sources = {(page["source"], page["index"]) for table in tables for page in table.values()}
        return tables, {key: cells for key, cells in self.written.items() if key in sources}

    def restore(self, family):
        tables, written = family
        for name in sorted({page["source"][1] for table in tables for page in table.values()
                            if page["source"] is not None and page["source"][0] == "file"}):
            self.file(name)
        objects, keys, numbers = {}, {}, []
        for table in tables:
            self.processes += 1
            numbers.append(self.processes)
            self.tables[self.processes] = {}
            for number in sorted(table):
                page = dict(table[number], stamp=self.now + 1, flags=table[number]["flags"] - {"lock"})
                self.tables[self.processes][number] = page
                self.restore_page(page, objects, keys, written)
        for process in numbers:
            for number in sorted(self.tables[process]):
                item = self.item(self.tables[process][number])
                if item is not None and item[0] != "file" and item not in self.row:
                    self.touch(item)
                    self.origins[item] = self.now + 1
        return numbers

    def restore_page(self, page, objects, keys, written):
        if page["key"] is not None:
            if page["key"] not in keys:
                self.keys += 1
                keys[page["key"]] = self.keys
            page["key"] = keys[page["key"]]
        old = page["source"]
        if old is not None and old[0] == "object":
            if old not in objects:
                self.objects += 1
                objects[old] = ("object", self.objects)
            page["source"] = objects[old]
            if (old, page["index"]) in written:
                self.written[(page["source"], page["index"])] = written[(old, page["index"])]

    # Questions

    def regions(self, process):
        rows = []
        table = self.tables[process]
        for number in sorted(table):
            page = table[number]
            flags = tuple(sorted(page["flags"]))
            row = [number, 1, page["rights"], page["shared"], page["source"], page["index"], flags]
            last = rows[-1] if rows else None
            if last is not None and last[0] + last[1] == number and last[2:5] == row[2:5] and last[6] == flags:
                if page["source"] is None or last[5] + last[1] == page["index"]:
                    last[1] += 1
                    continue
            rows.append(row)
        return [tuple(row) for row in rows]

    def widest(self, process):
        return max([count for count in range(1, 513) if self.gap(self.tables[process], count) is not None], default=0)

    def count(self):
        cached = {self.item(page) for page in self.pages()}
        return len(self.classes()), len(self.written), len([item for item in cached if item and item[0] == "file"])

    def places(self):
        return sorted((process, number) for process, table in self.tables.items() for number in table)

    def shown_at(self, place):
        return self.item(self.tables[place[0]][place[1]])

    def users(self, place):
        item = self.shown_at(place)
        return [] if item is None else [other for other in self.places() if self.shown_at(other) == item]

    def next_write(self, place):
        try:
            return self.copy().write(place[0], 4 * place[1], 0)
        except Refused:
            return None

    def writes_of(self, places):
        """Do the writes, in the given order."""
        trial = self.copy()
        effects = [trial.write(process, 4 * number, 0) for process, number in places]
        return effects.count("zeros"), effects.count("copy"), effects.count("file")

    def at_position(self, number):
        item = self.row[number - 1] if number <= len(self.row) else None
        if item is None or item[0] != "private":
            return item
        return "private", [place for place in self.places() if self.shown_at(place) == item]

    def stamp(self, place):
        return self.tables[place[0]][place[1]]["stamp"]

    def origin(self, place):
        return self.origins.get(self.shown_at(place))

    def changed(self, process, since):
        return [number for number in sorted(self.tables[process]) if self.stamp((process, number)) > since]

    def increment(self, process, since):
        table = self.tables[process]
        return (tuple(self.regions(process)),
                tuple((number, self.content(table[number])) for number in self.changed(process, since)))

    def distances(self):
        return [position for item, position, life in self.log]

    def working(self, count):
        return len({(item, life) for item, position, life in self.log[max(0, len(self.log) - count):]})

    def able(self, process):
        """The places of a process that can be written."""
        return [(process, number) for number in sorted(self.tables[process])
                if self.next_write((process, number)) is not None]

    def makes(self, places):
        """How many classes writes of some places make, in the given order, without regard to room."""
        return len([1 for process, number in places if self.write(process, 4 * number, 0) != "place"])

    def reserve(self, random):
        """How many writes that make a class are possible, in some order, as often as there are any."""
        trial = self.copy()
        trial.limit = trial.frames = None
        many = 0
        places = [place for process in sorted(self.tables) for place in self.able(process)]
        while True:
            able = [place for place in places if trial.next_write(place) != "place"]
            if not able:
                return many
            many += trial.makes([random.choice(able)])

    def reserve_of(self, process):
        others = [place for other in sorted(self.tables) if other != process for place in self.able(other)]
        first, last = self.copy(), self.copy()
        first.limit = last.limit = first.frames = last.frames = None
        last.makes(others)
        return last.makes(last.able(process)), first.makes(first.able(process))

    def forks_that_fit(self, process):
        if self.limit is None:
            return None
        trial = self.copy()
        trial.strict = True
        before = trial.charge()
        many = 0
        try:
            while True:
                trial.perform("fork", process)
                if trial.charge() == before:
                    return None
                many += 1
        except Refused:
            return many

    def without(self, some):
        trial = self.copy()
        for process in some:
            trial.leave(process)
        trial.clear_away()
        return trial

    def frees(self, some):
        return self.kept() - self.without(some).kept()

    def share(self, process):
        """The mean, over all orders in which the processes exit, of what the exit of this one frees."""
        orders = list(itertools.permutations(self.tables))
        freed = {}
        total = Fraction(0)
        for order in orders:
            before = tuple(sorted(order[:order.index(process)]))
            if before not in freed:
                freed[before] = self.frees(before + (process,)) - self.frees(before)
            total += freed[before]
        mean = total / len(orders)
        return mean.numerator, mean.denominator

    def least(self, reaches):
        for many in range(len(self.tables) + 1):
            for some in itertools.combinations(sorted(self.tables), many):
                if reaches(some):
                    return some
        return None

    def least_exits(self, count):
        return self.least(lambda some: self.frees(some) >= count)

    def exits_for(self, count):
        return self.least(lambda some: self.charge() - self.without(some).charge() >= count)
