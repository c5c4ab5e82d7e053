"""The least number of faults that any choice of what leaves can have (7.3)."""

import random
import unittest

from pageclass import errors
from pageclass.access import drop, need, write
from pageclass.choices import best_faults
from pageclass.files import create, crash, drop_cache, read_page, truncate, write_page
from pageclass.merging import merge
from pageclass.positions import distances, faults
from pageclass.spaces import flag, map_pages, unmap
from pageclass.systems import System, fork, spawn
from draws import Busy, View
from search import least_faults, touches_of
from steps import STEPS
from support import ODD, refuses

HUGE = 10 ** 3000


class Case(unittest.TestCase):

    def setUp(self):
        self.s = System()
        self.p = spawn(self.s)
        create(self.s, "f", 6)
        map_pages(self.s, self.p, 8)

    def write(self, *numbers):
        for number in numbers:
            write(self.s, self.p, 4 * number, 1)

    def read_file(self, *indexes):
        for index in indexes:
            read_page(self.s, "f", index)

    def best(self, *numbers):
        return [best_faults(self.s, frames) for frames in numbers]

    def check(self):
        touches = touches_of(self.s.history)
        for frames in range(1, 7):
            self.assertEqual(best_faults(self.s, frames), least_faults(touches, frames))


class BestFaults(Case):

    def test_no_touch(self):
        self.assertEqual(self.best(1, 2, 999), [0, 0, 0])

    def test_a_loop(self):
        self.write(0, 1, 2, 0, 1, 2, 0, 1, 2)
        self.assertEqual([faults(self.s, frames) for frames in (1, 2, 3)], [6, 6, 0])
        self.assertEqual(self.best(1, 2, 3, 4, 999), [6, 3, 0, 0, 0])
        self.check()

    def test_the_farthest_leaves(self):
        self.write(0, 1, 2, 3, 1, 2, 0, 3)
        self.assertEqual(self.best(1, 2, 3, 4), [4, 2, 1, 0])
        self.check()

    def test_new_items_need_frames(self):
        self.write(0, 1, 2, 3, 0)
        self.assertEqual(self.best(1, 2), [1, 0])
        self.check()

    def test_what_is_gone_needs_no_frame(self):
        self.write(0, 1, 2)
        drop(self.s, self.p, 0, 1)
        self.write(3, 1, 2, 3)
        self.assertEqual((self.best(1, 2, 3), [faults(self.s, frames) for frames in (1, 2, 3)]), ([3, 1, 0], [3, 3, 0]))
        self.check()

    def test_what_is_never_touched_again_leaves_first(self):
        self.write(0, 1, 2, 3, 4, 5, 0)
        self.assertEqual(self.best(1, 2), [1, 0])

    def test_pages_that_leave_with_the_cache_do_not_come_back_as_faults(self):
        self.read_file(0, 1)
        self.write(0)
        drop_cache(self.s)
        self.read_file(0, 1)
        self.write(0)
        self.assertEqual(self.best(1, 2), [1, 0])
        self.read_file(1, 0)
        self.assertEqual(self.best(1, 2, 3), [3, 1, 0])
        self.check()

    def test_pages_that_were_truncated(self):
        self.read_file(0, 5)
        truncate(self.s, "f", 5)
        truncate(self.s, "f", 6)
        self.read_file(5, 0)
        self.assertEqual(self.best(1, 2), [1, 0])
        self.check()

    def test_copies(self):
        self.write(0, 1)
        c = fork(self.s, self.p)
        write(self.s, c, 0, 2)
        write(self.s, c, 4, 2)
        need(self.s, self.p, 0, 2)
        self.assertEqual(distances(self.s), [None, None, 2, None, 3, None, 4, 3])
        self.assertEqual(self.best(1, 2, 3, 4), [4, 1, 0, 0])
        self.check()

    def test_it_does_not_depend_on_the_frames_of_the_system(self):
        told = []
        for named in ({}, {"frames": 1}, {"frames": 2, "slots": 6}, {"frames": 20, "slots": 9, "strict": True}):
            self.s = System(**named)
            self.p = spawn(self.s)
            map_pages(self.s, self.p, 5)
            self.write(0, 1, 2, 3, 4, 2, 0, 3, 1, 4, 0, 0, 2)
            told.append(self.best(1, 2, 3, 4, 5, 999))
        self.assertEqual(told, told[:1] * 4)
        self.check()

    def test_after_a_crash(self):
        self.write(0)
        crash(self.s)
        for frames in (1, 999):
            refuses(self, self.s, "NoHistory", None, best_faults, frames)
        refuses(self, self.s, "NoPages", "frames", best_faults, 0)

    def test_after_a_merge(self):
        flag(self.s, self.p, 0, 8, merge=True)
        merge(self.s)
        self.write(0)
        write(self.s, self.p, 4, 2)
        merge(self.s)
        self.assertEqual(self.best(1), [0])
        write(self.s, self.p, 4, 1)
        merge(self.s)
        refuses(self, self.s, "NoHistory", None, best_faults, 1)
        refuses(self, self.s, "NoPages", "frames", best_faults, 1000)
        unmap(self.s, self.p, 0, 8)
        refuses(self, self.s, "NoHistory", None, best_faults, 999)

    def test_wrong_frames(self):
        self.write(0)
        for frames in ODD + (None, 0, -1, 1000, HUGE, -HUGE):
            refuses(self, self.s, "NoPages", "frames", best_faults, frames)


class Search(Case):
    """Random touches, against a search through all choices."""

    def touch(self, draw):
        page = draw.randrange(6)
        step = draw.choice([self.write, self.write, self.write, self.read_file, self.read_file, self.change, self.drop])
        step(page)

    def change(self, page):
        write_page(self.s, "f", page, (1, 2, 3, 4))

    def drop(self, page):
        drop(self.s, self.p, page, 2)

    def test_random_touches(self):
        for seed in range(40):
            draw = random.Random(seed)
            self.setUp()
            for _ in range(30):
                self.touch(draw)
                if draw.random() < 0.03:
                    drop_cache(self.s)
                if draw.random() < 0.03:
                    truncate(self.s, "f", draw.randrange(6))
                    truncate(self.s, "f", 6)
            with self.subTest(seed=seed):
                self.check()

    def test_random_steps_with_locks(self):
        """The locks are those of the history; that these are right is seen in what real systems do."""
        locks = 0
        for seed in range(30):
            draw = Busy(7000 + seed)
            self.s = System()
            for _ in range(90):
                name, args, named = draw.step(View(self.s))
                if name not in ("crash", "merge"):
                    try:
                        STEPS[name](self.s, *args, **named)
                    except errors.PageError:
                        pass
            touches = touches_of(self.s.history)
            least = self.s.history.most_locked + 1
            locks += least > 1
            with self.subTest(seed=seed):
                for frames in range(least, least + 4):
                    self.assertEqual(best_faults(self.s, frames), least_faults(touches, frames))
        self.assertGreater(locks, 15)


if __name__ == "__main__":
    unittest.main()
