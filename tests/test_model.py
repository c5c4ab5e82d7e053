"""Long rows of random steps, beside the plain model."""

import unittest

from pageclass import errors
from pageclass.access import drop, need, read, write
from pageclass.exits import exits_for, frees, least_exits, share
from pageclass.files import create, crash, disk, drop_cache, files, read_page, size, sync, truncate, write_page
from pageclass.merging import merge
from pageclass.sharing import count, next_write, same, users, writes_of
from pageclass.spaces import flag, gap, map_pages, move, protect, regions, unmap, widest
from pageclass.systems import System, fork, fresh, leave, now, processes, spawn
from draws import Draw
from model import Model, Refused
from support import VALUES, cells, give_lock, in_memory, snapshot, touched

STEPS = {step.__name__: step for step in (spawn, fork, leave, fresh, map_pages, unmap, protect, flag, move, read,
                                          write, need, drop, create, read_page, write_page, truncate, sync,
                                          drop_cache, crash, merge)}
ALWAYS = ("gives", "NoProcess", "NoPages", "NotMapped", "NoRight", "PastEnd", "NoFile", "Taken")


def outcome(step, *args, **named):
    """What a step of the program does: its result, or its error with its value."""
    try:
        return "gives", step(*args, **named)
    except errors.PageError as error:
        name = error.__class__.__name__
        return name, getattr(error, VALUES[name]) if name in VALUES else None


def expected(model, name, args, named):
    try:
        return "gives", model.perform(name, *args, **named)
    except Refused as error:
        return error.name, error.value


def told(items):
    return ["private" if item[0] == "private" else item for item in items]


class Run:
    """One row of steps, done by a system and by a model."""

    def __init__(self, case, seed, **named):
        self.case = case
        self.draw = Draw(seed)
        self.system = System(**named)
        self.model = Model(**named)
        self.seen = {}

    def step(self):
        name, args, named = self.draw.step(self.model)
        touches = len(self.system.touches)
        before = snapshot(self.system)
        want = expected(self.model, name, args, named)
        self.case.assertEqual(outcome(STEPS[name], self.system, *args, **named), want, (name, args, named))
        if want[0] == "gives":
            self.case.assertEqual(touched(self.system)[touches:], told(self.model.touched))
        else:
            self.case.assertEqual(snapshot(self.system), before)
        self.seen[want[0]] = self.seen.get(want[0], 0) + 1

    def lock_one(self):
        """Lock a page, as a later step could have done."""
        able = [place for place in self.model.places() if self.page(place)["key"] is not None
                and self.page(place)["rights"] == "rw" and "lock" not in self.page(place)["flags"]]
        if able:
            place = self.draw.one(*able)
            give_lock(self.system, *place)
            self.page(place)["flags"] |= {"lock"}

    def page(self, place):
        return self.model.tables[place[0]][place[1]]

    def compare(self):
        system, model, equal = self.system, self.model, self.case.assertEqual
        equal((now(system), processes(system)), (model.now, sorted(model.tables)))
        for process, table in model.tables.items():
            equal(regions(system, process), model.regions(process))
            equal([cells(system, process, number) for number in sorted(table)],
                  [model.content(table[number]) for number in sorted(table)])
        equal(files(system), sorted(model.files))
        for name in model.files:
            equal((size(system, name), disk(system, name)), (len(model.files[name]), model.disk[name]))
        equal(count(system), model.count())
        equal(in_memory(system), sorted(told(model.memory), key=str))

    def compare_places(self):
        places = self.model.places()
        if not places:
            return
        one, other = self.draw.one(*places), self.draw.one(*places)
        self.case.assertEqual(users(self.system, one), self.model.users(one))
        self.case.assertEqual(same(self.system, one, other), other in self.model.users(one))
        self.case.assertEqual(next_write(self.system, one), self.model.next_write(one))
        able = [place for place in places if self.model.next_write(place) is not None]
        some = self.draw.random.sample(able, self.draw.random.randint(0, len(able)))
        counts = self.model.writes_of(some)
        self.case.assertEqual(writes_of(self.system, some), counts)
        self.case.assertEqual(self.model.writes_of(self.draw.random.sample(some, len(some))), counts)

    def compare_exits(self):
        living = processes(self.system)
        for process in living:
            self.case.assertEqual(share(self.system, process), self.model.share(process))
        some = tuple(self.draw.random.sample(living, self.draw.random.randint(0, len(living))))
        self.case.assertEqual(frees(self.system, some), self.model.frees(some))
        for number in (0, 1, 2, 3, self.model.kept(), self.model.kept() + 1):
            self.case.assertEqual(least_exits(self.system, number), self.model.least_exits(number))
        for number in (0, 1, 2, 4, self.model.charge(), self.model.charge() + 1):
            self.case.assertEqual(exits_for(self.system, number), self.model.exits_for(number))

    def compare_gaps(self):
        for process in processes(self.system):
            self.case.assertEqual(widest(self.system, process), self.model.widest(process))
            for number in (1, 2, 3, 500, 511, 512):
                self.case.assertEqual(gap(self.system, process, number),
                                      self.model.gap(self.model.tables[process], number))


class RandomSteps(unittest.TestCase):

    def run_steps(self, seed, **named):
        run = Run(self, seed, **named)
        for number in range(1, 151):
            with self.subTest(seed=seed, number=number):
                run.step()
                if "frames" not in named and run.draw.often(0.1):
                    run.lock_one()
                run.compare()
                run.compare_places()
                if number % 50 == 0:
                    run.compare_exits()
        run.compare_gaps()
        return run.seen

    def run_all(self, seeds, **named):
        """All that the steps of some seeds came to, by its number."""
        seen = {}
        for seed in seeds:
            for name, times in self.run_steps(seed, **named).items():
                seen[name] = seen.get(name, 0) + times
        return seen

    def met(self, seen, *names):
        self.assertEqual(sorted(seen), sorted(ALWAYS + names))

    def test_without_limits(self):
        self.met(self.run_all(range(25)), "NoLock")

    def test_with_frames_alone(self):
        for frames in (1, 2, 3, 5):
            self.met(self.run_all(range(100 * frames, 100 * frames + 8), frames=frames))

    def test_with_little_room(self):
        for frames, slots in ((1, 0), (1, 2), (2, 3), (4, 1), (6, 0)):
            seeds = range(1000 + 100 * frames + 10 * slots, 1000 + 100 * frames + 10 * slots + 8)
            self.met(self.run_all(seeds, frames=frames, slots=slots), "NoRoom")

    def test_strict(self):
        for frames, slots in ((4, 5), (9, 0), (2, 14)):
            seeds = range(2000 + 100 * frames, 2000 + 100 * frames + 10)
            self.met(self.run_all(seeds, frames=frames, slots=slots, strict=True), "NoCharge")


if __name__ == "__main__":
    unittest.main()
