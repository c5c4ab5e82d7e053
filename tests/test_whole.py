"""What holds over the whole program (0.2 to 0.5)."""

import itertools
import unittest

from pageclass import errors
from pageclass.access import read, write
from pageclass.charges import charge, reserve
from pageclass.families import family
from pageclass.files import create
from pageclass.locks import lock
from pageclass.positions import distances
from pageclass.sharing import count, users
from pageclass.spaces import flag, map_pages
from pageclass.systems import System, fork, now, processes, spawn
from draws import Busy, Draw, View
from questions import of_its_limits, of_its_steps
from steps import STEPS
from support import snapshot

# How a step is refused for want of frames and slots.
WANTS = (("NoRoom", "{}"), ("NoCharge", "{}"), ("NoLock", "{'page': None}"))


class Case(unittest.TestCase):

    def outcome(self, system, name, args, named):
        """The result of a step, or the name and the value of its error."""
        try:
            return STEPS[name](system, *args, **named)
        except errors.PageError as error:
            return error.__class__.__name__, repr(vars(error))


class Questions(Case):

    def test_they_change_nothing_and_are_answered_twice_alike(self):
        for draw, named in ((Draw(1), {}), (Busy(2), {}), (Busy(3), {"frames": 4, "slots": 7}),
                            (Busy(4), {"frames": 9, "slots": 9, "strict": True})):
            s = System(**named)
            for number in range(240):
                self.outcome(s, *draw.step(View(s)))
                if number % 12 == 0:
                    before = snapshot(s)
                    told = of_its_steps(s), of_its_limits(s)
                    self.assertEqual((of_its_steps(s), of_its_limits(s)), told)
                    self.assertEqual(snapshot(s), before)

    def test_systems_that_differ_in_their_limits_answer_alike(self):
        """Up to the first step that one refuses for want of frames and slots."""
        limits = ({"frames": 7}, {"frames": 6, "slots": 20}, {"frames": 3, "slots": 9}, {"slots": 0}, {"frames": 20},
                  {"frames": 20, "slots": 30, "strict": True}, {"frames": 64, "slots": 256, "strict": True})
        asked = 0
        for draw in [Busy(9000 + seed) for seed in range(6)] + [Draw(9000), Draw(9001)]:
            base = System()
            others = [System(**named) for named in limits]
            for number in range(200):
                name, args, named = draw.step(View(base))
                if name == "crash":
                    continue
                result = self.outcome(base, name, args, named)
                told = [self.outcome(s, name, args, named) for s in others]
                others = [s for s, other in zip(others, told) if other not in WANTS]
                self.assertEqual([other for other in told if other not in WANTS], [result] * len(others))
                if number % 20 == 19:
                    answers = of_its_steps(base)
                    for s in others:
                        self.assertEqual(of_its_steps(s), answers)
                        asked += 1
        self.assertGreater(asked, 250)


class Guarantees(Case):

    def test_copies_of_a_class(self):
        """A class with n users costs n - 1 copies in whatever order they are written."""
        for order in itertools.permutations(range(1, 5)):
            s = System()
            p = spawn(s)
            map_pages(s, p, 1)
            write(s, p, 0, 7)
            for _ in range(3):
                fork(s, p)
            made = []
            for process in order:
                before = count(s)[0]
                write(s, process, 1, process)
                made.append(count(s)[0] - before)
            self.assertEqual(made, [1, 1, 1, 0])
            self.assertEqual([(read(s, process, 0), read(s, process, 1)) for process in range(1, 5)],
                             [(7, process) for process in range(1, 5)])

    def test_some_row_of_writes_reaches_the_charge(self):
        for seed in range(5):
            s = System()
            draw = Busy(100 + seed)
            for _ in range(80):
                self.outcome(s, *draw.step(View(s)))
            before = charge(s)
            for process in processes(s):
                for number in list(s.tables[process]):
                    self.outcome(s, "write", (process, 4 * number, 1), {})
            self.assertEqual((charge(s), sum(count(s)[:2]), reserve(s)), (before, before, 0))

    def test_every_step_that_succeeds_has_a_number(self):
        s = System()
        draw = Busy(77)
        for _ in range(300):
            before = now(s)
            name, args, named = draw.step(View(s))
            told = self.outcome(s, name, args, named)
            self.assertEqual(now(s), before + (not isinstance(told, tuple) or name == "read_page"
                                               and isinstance(told[0], int)))

    def test_a_step_that_raises_an_error_changes_nothing(self):
        refused = 0
        for seed in range(6):
            s = System(frames=3, slots=4, strict=seed % 2 == 1)
            draw = Busy(600 + seed)
            for _ in range(200):
                before, last = snapshot(s), now(s)
                self.outcome(s, *draw.step(View(s)))
                if now(s) == last:
                    refused += 1
                    self.assertEqual(snapshot(s), before)
        self.assertGreater(refused, 100)

    def test_two_systems_have_nothing_in_common(self):
        alone, one, other = System(), System(), System()
        draw, noise = Busy(31), Busy(32)
        for _ in range(200):
            name, args, named = draw.step(View(one))
            self.assertEqual(self.outcome(one, name, args, named), self.outcome(alone, name, args, named))
            self.outcome(other, *noise.step(View(other)))
            if processes(one):
                self.outcome(other, "restore", (family(one, tuple(processes(one)[:1])),), {})
                self.outcome(other, "leave", (max(processes(other)),), {})
        self.assertEqual(of_its_steps(one), of_its_steps(alone))


class Arguments(Case):

    def test_the_first_invalid_argument_is_told(self):
        s = System(frames=2, slots=0)
        p = spawn(s)
        map_pages(s, p, 2)
        create(s, "f", 2)
        for name, args, error in (
                ("map_pages", (9, 0), "NoProcess"), ("map_pages", (p, True), "count"), ("unmap", (p, [], 0), "first"),
                ("protect", (p, 0, 0, []), "count"), ("protect", (p, 0, 513, []), "count"), ("protect", (p, 9, 1, []), "rights"),
                ("move", (p, 9, 1, {}), "to"), ("lock", (True, -1, 0), "NoProcess"), ("lock", (p, False, 0), "first"),
                ("unlock", (p, 9, {}), "count"), ("write", (p, 2048, 256), "address"), ("write", (p, 100, True), "value"),
                ("create", ({}, -1), "NoFile"), ("create", ("f", -1), "Taken"), ("create", ("g", True), "count"),
                ("write_page", ([], 9, 9), "NoFile"), ("write_page", ("f", True, []), "index"),
                ("write_page", ("f", 1, [0, 0, 0, 0]), "content"), ("truncate", ("f", False), "count")):
            told = self.outcome(s, name, args, {})
            self.assertTrue(error in (told[0], eval(told[1]).get("part")), (name, args, told))

    def test_huge_numbers(self):
        s = System()
        p = spawn(s)
        map_pages(s, p, 1)
        huge = 10 ** 3000
        for name, args in (("read", (p, huge)), ("write", (p, 0, -huge)), ("lock", (p, 0, huge)), ("leave", (huge,)),
                           ("map_pages", (p, huge)), ("need", (p, huge, 1)), ("create", ("f", huge))):
            with self.assertRaises(errors.PageError):
                STEPS[name](s, *args)

    def test_errors_are_values_and_page_errors(self):
        s = System(frames=2, slots=0)
        p = spawn(s)
        map_pages(s, p, 3)
        lock(s, p, 0, 1)
        with self.assertRaises(errors.NoLock) as caught:
            lock(s, p, 1, 1)
        self.assertIsNone(caught.exception.page)
        self.assertIsInstance(caught.exception, ValueError)
        self.assertEqual((distances(s), users(s, (p, 0))), ([None], [(p, 0)]))
        flag(s, p, 0, 1, merge=True)


if __name__ == "__main__":
    unittest.main()
