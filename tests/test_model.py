"""Long rows of random steps, beside the plain model."""

import unittest

from pageclass import errors
from pageclass.charges import charge, forks_that_fit, reserve, reserve_of
from pageclass.exits import exits_for, frees, least_exits, share
from pageclass.families import family
from pageclass.files import disk, files, size
from pageclass.memory import counts, in_memory
from pageclass.pictures import changed, compose, increment, origin, picture, stamp
from pageclass.positions import at_position, distances, position, working
from pageclass.sharing import count, next_write, same, users, writes_of
from pageclass.spaces import gap, regions, widest
from pageclass.systems import System, now, processes
from draws import Busy, Draw
from model import Model, Refused
from steps import STEPS
from support import VALUES, cells, cached, snapshot, touched

ALWAYS = ("gives", "NoProcess", "NoPages", "NotMapped", "NoRight", "PastEnd", "NoFile", "Taken", "NoLock")


def outcome(step, *args, **named):
    """What a step of the program does: its result, or its error with its value."""
    try:
        return "gives", step(*args, **named)
    except errors.PageError as error:
        name = error.__class__.__name__
        return name, getattr(error, VALUES[name]) if name in VALUES else None


def expected(model, name, args, named):
    try:
        return "gives", model.perform(name, *args, **named)
    except Refused as error:
        return error.name, error.value


def told(items):
    return ["private" if item[0] == "private" else item for item in items]


class Run:
    """One row of steps, done by a system and by a model."""

    def __init__(self, case, draw, **named):
        self.case = case
        self.draw = draw
        self.system = System(**named)
        self.model = Model(**named)
        self.seen = {}
        self.families = []
        self.pictures = []

    def step(self):
        if self.families and self.draw.often(0.02):
            one, other = self.draw.one(*self.families)
            self.perform("restore", (one,), {}, (other,))
        else:
            name, args, named = self.draw.step(self.model)
            self.perform(name, args, named, args)

    def perform(self, name, args, named, model_args):
        touches = len(self.system.history.touches)
        want = expected(self.model, name, model_args, named)
        before = None if want[0] == "gives" else snapshot(self.system)
        self.case.assertEqual(outcome(STEPS[name], self.system, *args, **named), want, (name, args, named))
        if want[0] == "gives":
            self.case.assertEqual(touched(self.system)[touches:], told([item for item, *_ in self.model.touched]))
        else:
            self.case.assertEqual(snapshot(self.system), before)
        self.seen[want[0]] = self.seen.get(want[0], 0) + 1

    def page(self, place):
        return self.model.tables[place[0]][place[1]]

    def compare(self):
        system, model, equal = self.system, self.model, self.case.assertEqual
        equal((now(system), processes(system)), (model.now, sorted(model.tables)))
        for process, table in model.tables.items():
            equal(regions(system, process), model.regions(process))
            equal([cells(system, process, number) for number in sorted(table)],
                  [model.content(table[number]) for number in sorted(table)])
        equal(files(system), sorted(model.files))
        for name in model.files:
            equal((size(system, name), disk(system, name)), (len(model.files[name]), model.disk[name]))
        equal(count(system), model.count())
        equal(counts(system), model.counts)
        equal(cached(system), sorted(told(model.memory), key=str))

    def compare_positions(self):
        system, model, equal = self.system, self.model, self.case.assertEqual
        for place in model.places():
            item = model.shown_at(place)
            equal((position(system, place), in_memory(system, place)), (model.position(item), item in model.memory))
        for number in range(1, len(model.row) + 3):
            equal(at_position(system, number), model.at_position(number))
        equal(distances(system), model.distances())
        for number in (0, 1, 2, 5, 20, 10 ** 30):
            equal(working(system, number), model.working(number))

    def compare_stamps(self):
        system, model, equal = self.system, self.model, self.case.assertEqual
        for place in model.places():
            equal((stamp(system, place), origin(system, place)), (model.stamp(place), model.origin(place)), place)
        for process in model.tables:
            for since in (0, model.now // 2, max(0, model.now - 3), model.now, model.now + 1):
                equal(changed(system, process, since), model.changed(process, since))
                equal(increment(system, process, since), model.increment(process, since))
            equal(picture(system, process), model.increment(process, -1))

    def compare_pictures(self):
        """Increments compose on all earlier pictures of a process, and of those that it is a child of."""
        system, equal = self.system, self.case.assertEqual
        for since, process, old in self.pictures:
            for heir in processes(system):
                if process in self.ancestors(heir, since):
                    equal(compose(old, increment(system, heir, since)), picture(system, heir))
        for process in processes(system):
            self.pictures.append((now(system), process, picture(system, process)))
        self.pictures = self.pictures[-20:]

    def ancestors(self, process, since):
        """The process, and those from which it comes by forks behind a step."""
        found = [process]
        while found[-1] in self.model.parents and self.model.parents[found[-1]][1] > since:
            found.append(self.model.parents[found[-1]][0])
        return found

    def take_family(self):
        living = processes(self.system)
        some = tuple(self.draw.random.sample(living, self.draw.random.randint(0, min(2, len(living)))))
        self.families.append((family(self.system, some), self.model.family(some)))
        self.families = self.families[-3:]

    def compare_places(self):
        places = self.model.places()
        if not places:
            return
        one, other = self.draw.one(*places), self.draw.one(*places)
        self.case.assertEqual(users(self.system, one), self.model.users(one))
        self.case.assertEqual(same(self.system, one, other), other in self.model.users(one))
        self.case.assertEqual(next_write(self.system, one), self.model.next_write(one))
        able = [place for place in places if self.model.next_write(place) is not None]
        some = self.draw.random.sample(able, self.draw.random.randint(0, len(able)))
        made = self.model.writes_of(some)
        self.case.assertEqual(writes_of(self.system, some), made)
        self.case.assertEqual(self.model.writes_of(self.draw.random.sample(some, len(some))), made)

    def compare_charges(self):
        system, model, equal = self.system, self.model, self.case.assertEqual
        equal(charge(system), model.charge())
        equal(reserve(system), model.reserve(self.draw.random))
        for process in model.tables:
            equal(reserve_of(system, process), model.reserve_of(process))
            equal(forks_that_fit(system, process), model.forks_that_fit(process))

    def compare_exits(self):
        living = processes(self.system)
        for process in living:
            self.case.assertEqual(share(self.system, process), self.model.share(process))
        some = tuple(self.draw.random.sample(living, self.draw.random.randint(0, len(living))))
        self.case.assertEqual(frees(self.system, some), self.model.frees(some))
        for number in (0, 1, 2, 3, self.model.kept(), self.model.kept() + 1):
            self.case.assertEqual(least_exits(self.system, number), self.model.least_exits(number))
        for number in (0, 1, 2, 4, self.model.charge(), self.model.charge() + 1):
            self.case.assertEqual(exits_for(self.system, number), self.model.exits_for(number))

    def compare_gaps(self):
        for process in processes(self.system):
            self.case.assertEqual(widest(self.system, process), self.model.widest(process))
            for number in (1, 2, 3, 500, 511, 512):
                self.case.assertEqual(gap(self.system, process, number),
                                      self.model.gap(self.model.tables[process], number))


class RandomSteps(unittest.TestCase):

    def run_steps(self, draw, seed, **named):
        run = Run(self, draw(seed), **named)
        for number in range(1, 151):
            with self.subTest(seed=seed, number=number):
                run.step()
                run.compare()
                run.compare_places()
                if number % 10 == 0:
                    self.compare_more(run)
                if number % 75 == 0:
                    run.compare_exits()
        run.compare_gaps()
        return run.seen

    def compare_more(self, run):
        before = snapshot(run.system)
        run.compare_positions()
        run.compare_charges()
        run.compare_stamps()
        run.compare_pictures()
        run.take_family()
        self.assertEqual(snapshot(run.system), before)

    def run_all(self, seeds, draw=Draw, **named):
        """All that the steps of some seeds came to, by its number."""
        seen = {}
        for seed in seeds:
            for name, times in self.run_steps(draw, seed, **named).items():
                seen[name] = seen.get(name, 0) + times
        return seen

    def met(self, seen, *names):
        self.assertEqual(sorted(seen), sorted(ALWAYS + names))

    def test_without_limits(self):
        self.met(self.run_all(range(16)))

    def test_with_frames_alone(self):
        for frames in (1, 2, 3, 5):
            self.met(self.run_all(range(100 * frames, 100 * frames + 5), frames=frames))

    def test_with_little_room(self):
        for frames, slots in ((1, 0), (1, 2), (2, 3), (4, 1), (6, 0)):
            seeds = range(1000 + 100 * frames + 10 * slots, 1000 + 100 * frames + 10 * slots + 5)
            self.met(self.run_all(seeds, frames=frames, slots=slots), "NoRoom")

    def test_strict(self):
        for frames, slots in ((4, 5), (9, 0), (2, 14)):
            seeds = range(2000 + 100 * frames, 2000 + 100 * frames + 6)
            self.met(self.run_all(seeds, frames=frames, slots=slots, strict=True), "NoCharge")

    def test_busy_ones(self):
        for number, named in enumerate(({}, {"frames": 2}, {"frames": 4}, {"frames": 8}, {"frames": 2, "slots": 5},
                                        {"frames": 5, "slots": 3}, {"frames": 9, "slots": 0},
                                        {"frames": 6, "slots": 9, "strict": True},
                                        {"frames": 12, "slots": 4, "strict": True})):
            seen = self.run_all(range(3000 + 10 * number, 3000 + 10 * number + 5), Busy, **named)
            self.assertIn("NoLock", seen)
            self.assertGreater(seen["gives"], 4 * (sum(seen.values()) - seen["gives"]) // 3)


if __name__ == "__main__":
    unittest.main()
