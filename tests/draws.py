"""Random steps over few pages and files, at both ends of the space; now and then an argument is invalid."""

import random

NAMES = ("f", "f", "f", "g", "g", "h")
# Contents of few kinds, so that some are equal.
CONTENTS = ((0, 0, 0, 0), (1, 2, 3, 4), (0, 1, 0, 0), (255, 0, 0, 9))
USUAL = (["map_pages"] * 6 + ["write"] * 12 + ["read"] * 4 + ["fork"] * 2 + ["protect"] * 2 + ["flag"] * 2
         + ["lock"] * 2 + ["unmap", "move", "need", "drop", "unlock"])
FILES = ["read_page", "write_page", "write_page", "truncate", "create", "sync", "merge"]


class Draw:

    def __init__(self, seed):
        self.random = random.Random(seed)

    def one(self, *choices):
        return self.random.choice(choices)

    def often(self, chance):
        return self.random.random() < chance

    def page(self, table):
        if table and self.often(0.9):
            return self.random.choice(sorted(table))
        return self.one(0, 0, 1, 1, 2, 3, 4, 5, 510, 511) if self.often(0.98) else self.one(-1, 512, True)

    def address(self, table):
        if self.often(0.02):
            return self.one(-1, 2048, None)
        return 4 * self.page(table) + self.one(0, 1, 2, 3)

    def process(self, living, made):
        if living and self.often(0.97):
            return self.random.choice(living)
        return self.one(0, made, made + 1, None, True)

    def name(self):
        return self.one(*NAMES) if self.often(0.95) else self.one("x", "", "F", None, 1)

    def source(self, objects):
        number = self.random.randint(0, objects + 1)
        return self.one(None, None, None, None, ("file", "f"), ("file", "f"), ("file", "g"), ("file", self.name()),
                        ("object", number), ("object", objects))

    def mapping(self, objects, table):
        named = {"rights": self.one("rw", "rw", "rw", "rw", "rw", "r", "none"), "shared": self.one(False, True),
                 "source": self.source(objects)}
        if self.often(0.3):
            named["index"] = self.one(0, 0, 1, 2, 509, 512)
        if self.often(0.7):
            named["at"] = self.page(table if self.often(0.3) else None)
        return (self.one(1, 1, 2, 3, 4, 5),), named

    def step(self, model):
        living = sorted(model.tables)
        if self.often(0.2):
            return self.file_step()
        name = self.one(*USUAL)
        if self.often(0.02) or len(living) > 5:
            name = self.one("leave", "fresh", "unmap")
        if self.often(0.02) or not living:
            return "spawn", (), {}
        process = self.process(living, model.processes)
        if process in living and not model.tables[process] and self.often(0.8):
            name = "map_pages"
        return (name,) + self.arguments(name, process, model)

    def file_step(self):
        name = self.one(*FILES) if self.often(0.95) else self.one("drop_cache", "crash")
        args = {
            "create": (self.name(), self.one(0, 1, 2, 3, 4, self.one(64, 65, -1, True))),
            "read_page": (self.name(), self.one(0, 0, 1, 2, self.one(-1, 63, None))),
            "write_page": (self.name(), self.one(0, 0, 1, 2, self.one(-1, 63, None)),
                           self.one(*CONTENTS, self.one((1, 2, 3), (1, 2, 3, 256), [1, 2, 3, 4], (0, 0, 0, True)))),
            "truncate": (self.name(), self.one(0, 1, 2, 2, 3, 3, 4, self.one(64, 65, -1, False))),
            "sync": (self.name(),),
        }
        return name, args.get(name, ()), {}

    def arguments(self, name, process, model):
        table = None if process is None else model.tables.get(process)
        if name == "map_pages":
            args, named = self.mapping(model.objects, table)
            return (process,) + args, named
        if name == "read":
            return (process, self.address(table)), {}
        if name == "write":
            return (process, self.address(table), self.one(0, 1, 1, 2, 3, 255, self.one(256, 7, True))), {}
        if name in ("fork", "fresh", "leave"):
            return (process,), {}
        args = (process, self.page(table), self.one(1, 1, 1, 2, 3))
        if name == "protect":
            args += (self.one("rw", "rw", "rw", "r", "none", "x"),)
        if name == "move":
            args += (self.page(table if self.often(0.5) else None),)
        named = {}
        if name == "flag":
            for word in ("merge", "stay", "wipe"):
                if self.often(0.4):
                    named[word] = self.one(True, word == "merge", None)
        return args, named


class Busy(Draw):
    """Few pages, many touches, locks and merges; seldom an error."""

    STEPS = (["write"] * 24 + ["read"] * 10 + ["lock"] * 6 + ["unlock"] * 3 + ["merge"] * 3 + ["fork"] * 2
             + ["map_pages"] * 3 + ["need"] * 2 + ["drop"] * 2 + ["flag"] * 4 + ["unmap", "move", "protect"])
    FILES = ["read_page"] * 6 + ["write_page"] * 6 + ["sync", "drop_cache", "truncate"]

    def page(self, table):
        return self.random.choice(sorted(table)) if table and self.often(0.97) else self.random.randrange(8)

    def step(self, model):
        living = sorted(model.tables)
        if self.often(0.01):
            return Draw.step(self, model)
        if not living or self.often(0.01):
            return "spawn", (), {}
        if len(living) > 4 and self.often(0.2):
            return self.one("leave", "leave", "fresh"), (self.one(*living),), {}
        if self.often(0.15):
            return self.busy_file_step()
        process = self.one(*living)
        table = model.tables[process]
        if len(table) < 4 or self.often(0.01):
            return self.busy_map(process)
        return self.busy_step(self.one(*self.STEPS), process, table)

    def busy_map(self, process):
        source = self.one(None, None, None, ("file", "f"))
        named = {"shared": self.often(0.2), "source": source, "at": self.random.randrange(7)}
        return "map_pages", (process, self.one(1, 2, 3)), named

    def busy_file_step(self):
        name = self.one(*self.FILES)
        args = {"read_page": (self.one(0, 1),), "write_page": (self.one(0, 1), self.one(*CONTENTS)),
                "truncate": (self.one(2, 2, 2, 1, 3),), "sync": ()}
        if name == "drop_cache":
            return name, (), {}
        if self.often(0.05):
            return "create", ("f", 2), {}
        return name, ("f",) + args[name], {}

    def busy_step(self, name, process, table):
        page = self.page(table)
        many = self.one(1, 1, 1, 2)
        if name == "write":
            return name, (process, 4 * page, self.one(1, 1, 2)), {}
        if name == "read":
            return name, (process, 4 * page), {}
        if name in ("fork", "merge"):
            return name, (process,)[:name == "fork"], {}
        if name == "map_pages":
            return self.busy_map(process)
        if name == "flag":
            wanted = {"merge": True} if self.often(0.9) else {self.one("stay", "wipe"): self.often(0.5)}
            return name, (process, page, self.one(*[k for k in range(1, 5) if page + k - 1 in table] or [1])), wanted
        more = {"move": (self.random.randrange(8),), "protect": (self.one("rw", "rw", "r"),)}
        return name, (process, page, many) + more.get(name, ()), {}


class View:
    """What Draw looks at of a system: its processes and their pages, and how many of each were made."""

    def __init__(self, system):
        self.tables = system.tables
        self.processes = system.processes_made
        self.objects = system.objects_made
