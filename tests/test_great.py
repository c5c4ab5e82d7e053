"""Great memories and long rows of touches, beside a plain memory in which the least recent item leaves."""

import random
import unittest
from collections import OrderedDict

from pageclass.access import need, read, write
from pageclass.charges import charge, forks_that_fit, reserve, reserve_of
from pageclass.choices import best_faults
from pageclass.files import create, disk, write_page
from pageclass.memory import counts, in_memory
from pageclass.positions import (at_position, disk_if, distances, faults, fits, least_frames, least_slots, position,
                                 swap_outs, working, write_backs)
from pageclass.sharing import count
from pageclass.spaces import map_pages
from pageclass.systems import System, fork, spawn

NUMBERS = (1, 2, 3, 10, 63, 64, 65, 200, 500, 700, 998, 999)


class Plain:
    """A memory of so many frames. An item is ("f", index) or ("p", page)."""

    def __init__(self, frames):
        self.frames = frames
        self.memory = OrderedDict()
        self.known = set()
        self.dirty = set()
        self.slots = self.most_slots = 0
        self.numbers = [0, 0, 0]
        self.disk = {}

    def touch(self, item, content):
        if item in self.memory:
            self.memory.move_to_end(item)
        else:
            self.numbers[0] += item in self.known
            self.slots -= item in self.known and item[0] == "p"
            if len(self.memory) == self.frames:
                self.leave(self.memory.popitem(last=False))
            self.most_slots = max(self.most_slots, self.slots)
        self.known.add(item)
        if content is not None:
            self.dirty.add(item)
        self.memory[item] = content if content is not None else self.memory.get(item) or self.disk.get(item)

    def leave(self, left):
        item, content = left
        if item[0] == "p":
            self.numbers[1] += 1
            self.slots += 1
        elif item in self.dirty:
            self.numbers[2] += 1
            self.dirty.remove(item)
            self.disk[item] = content


class Great(unittest.TestCase):

    @classmethod
    def setUpClass(cls):
        """Two processes with 500 pages each, 64 pages of a file, and 5000 touches."""
        cls.s = System()
        cls.made = [spawn(cls.s), spawn(cls.s)]
        create(cls.s, "f", 64)
        for process in cls.made:
            map_pages(cls.s, process, 500)
        cls.plains = [Plain(frames) for frames in NUMBERS]
        draw = random.Random(7)
        cls.items = []
        for number in range(5000):
            if draw.random() < 0.2:
                index = draw.randrange(64)
                cls.touch(("f", index), number)
            else:
                cls.touch(("p", draw.choice((number, draw.randrange(1000), draw.randrange(100))) % 1000), number)

    @classmethod
    def touch(cls, item, number):
        cls.items.append(item)
        if item[0] == "f":
            content = (number % 256, number // 256, 0, 0)
            write_page(cls.s, "f", item[1], content)
        else:
            content = None
            write(cls.s, cls.made[item[1] // 500], 4 * (item[1] % 500), number % 256)
        for plain in cls.plains:
            plain.touch(item, content)

    def test_the_numbers(self):
        for plain in self.plains:
            frames = plain.frames
            self.assertEqual([faults(self.s, frames), swap_outs(self.s, frames), write_backs(self.s, frames)],
                             plain.numbers)
            self.assertEqual(least_slots(self.s, frames), plain.most_slots)
            self.assertEqual(disk_if(self.s, frames, "f"),
                             [plain.disk.get(("f", index), (0, 0, 0, 0)) for index in range(64)])

    def test_all_numbers_of_frames(self):
        told = distances(self.s)
        for frames in range(1, 1000):
            many = len([distance for distance in told if distance is not None and distance > frames])
            self.assertEqual(faults(self.s, frames), many)
            self.assertLessEqual(least_frames(self.s, many), frames)
        for question in (faults, swap_outs, write_backs, least_slots):
            numbers = [question(self.s, frames) for frames in range(1, 1000)]
            self.assertEqual(numbers, sorted(numbers, reverse=True))

    def test_fits_and_working(self):
        told = distances(self.s)
        for frames in NUMBERS:
            log = [distance is not None and distance > frames for distance in told]
            least, greatest = fits(self.s, log)
            self.assertTrue(least <= frames <= (greatest or 9999))
            if greatest is not None:
                self.assertEqual(faults(self.s, min(999, greatest)), faults(self.s, least))
        for count in (0, 1, 10, 1000, 4999, 5000, 5001):
            self.assertEqual(working(self.s, count), len(set(self.items[5000 - count:] if count < 5000 else self.items)))

    def test_best_faults(self):
        """It is the number of all later touches less the greatest number of kept items; some bounds tell it."""
        last = None
        for frames in NUMBERS:
            best = best_faults(self.s, frames)
            self.assertLessEqual(best, faults(self.s, frames))
            self.assertTrue(last is None or best <= last)
            last = best
        self.assertEqual(best_faults(self.s, 1), faults(self.s, 1))

    def test_best_faults_of_a_loop(self):
        s = System()
        p = spawn(s)
        map_pages(s, p, 200)
        for number in range(4000):
            write(s, p, 4 * (number % 200), 1)
        self.assertEqual([faults(s, frames) for frames in (1, 199, 200)], [3800, 3800, 0])
        self.assertEqual([best_faults(s, frames) for frames in (1, 200, 999)], [3800, 0, 0])
        # For page 199, and then for each page that comes back, that one leaves which was touched just before it.
        self.assertEqual(best_faults(s, 199), len(range(398, 4000, 199)))

    def test_positions(self):
        row = [at_position(self.s, number) for number in range(1, 1200)]
        self.assertEqual(len([what for what in row if what is not None]), len(set(self.items)))
        for process in self.made:
            for number in range(0, 500, 7):
                at = position(self.s, (process, number))
                if at is not None:
                    self.assertEqual(row[at - 1], ("private", [(process, number)]))


class RealMemories(unittest.TestCase):

    def scene(self, **named):
        s = System(**named)
        p = spawn(s)
        create(s, "f", 64)
        map_pages(s, p, 300)
        map_pages(s, p, 64, source=("file", "f"), shared=True)
        draw = random.Random(11)
        for _ in range(3000):
            number = min(draw.randrange(364), draw.randrange(364))
            if draw.random() < 0.5:
                write(s, p, 4 * number, 1)
            else:
                read(s, p, 4 * number)
        need(s, p, 0, 364)
        return s, p

    def test_beside_real_systems(self):
        base, p = self.scene()
        for frames in (1, 7, 63, 64):
            slots = least_slots(base, frames)
            for named in ({"frames": frames}, {"frames": frames, "slots": min(256, slots)}):
                if named.get("slots", slots) < slots:
                    continue
                s, q = self.scene(**named)
                self.assertEqual(counts(s), {"faults": faults(base, frames), "swap_outs": swap_outs(base, frames),
                                             "write_backs": write_backs(base, frames)})
                self.assertEqual(disk(s, "f"), disk_if(base, frames, "f"))
                for number in range(364):
                    at = position(base, (p, number))
                    self.assertEqual(in_memory(s, (q, number)), at is not None and at <= frames)

    def test_the_charge(self):
        s, p = self.scene()
        written = count(s)[0]
        self.assertEqual((charge(s), reserve(s), reserve_of(s, p)), (300, 300 - written, (300 - written,) * 2))
        for _ in range(5):
            fork(s, p)
        self.assertEqual((charge(s), reserve(s), forks_that_fit(s, p)), (1800, 1800 - written, None))
        for process in range(1, 7):
            self.assertEqual(reserve_of(s, process), (300 - written, 300))


if __name__ == "__main__":
    unittest.main()
