"""What systems with any number of frames have done, beside systems that really have them (7.3)."""

import unittest

from pageclass import errors
from pageclass.access import drop, need, read, write
from pageclass.choices import best_faults
from pageclass.files import create, crash, disk, drop_cache, files, read_page, sync, truncate, write_page
from pageclass.memory import counts, in_memory
from pageclass.merging import merge
from pageclass.positions import (disk_if, distances, faults, fits, least_frames, least_slots, position, swap_outs,
                                 working, write_backs)
from pageclass.spaces import flag, map_pages, unmap
from pageclass.systems import System, fork, spawn
from draws import Busy, Draw, View
from model import Model
from scene import Scene
from steps import STEPS
from support import ODD, refuses

ONES = (1, 1, 1, 1)
TWOS = (2, 2, 2, 2)
ZEROS = (0, 0, 0, 0)
HUGE = 10 ** 3000
WRONG = ODD + (None, 0, -1, 1000, HUGE, -HUGE)
BY_FRAMES = (faults, swap_outs, write_backs, least_slots)


class Case(Scene):

    def told(self, question, *numbers):
        return [question(self.s, frames) for frames in numbers]


class Numbers(Case):

    def test_no_touch(self):
        for question in BY_FRAMES:
            self.assertEqual(self.told(question, 1, 2, 999), [0, 0, 0])
        self.assertEqual((least_frames(self.s, 0), disk_if(self.s, 1, "f")), (1, [ZEROS] * 4))

    def test_faults(self):
        self.write(0, 1, 2)
        self.read(0, 0, 2, 1)
        self.assertEqual(distances(self.s)[3:], [3, 1, 2, 3])
        self.assertEqual(self.told(faults, 1, 2, 3, 4, 999), [3, 2, 0, 0, 0])

    def test_swap_outs(self):
        self.write(0, 8, 12, 1)
        self.assertEqual(self.told(swap_outs, 1, 2, 3, 4, 999), [2, 1, 1, 0, 0])
        self.read(0, 0, 12)
        self.assertEqual(self.told(swap_outs, 1, 2, 3, 4), [4, 3, 1, 0])

    def test_write_backs(self):
        self.write(8, 9, 0, 10)
        self.assertEqual(self.told(write_backs, 1, 2, 3, 4), [2, 2, 1, 0])
        self.read(8, 9)
        self.assertEqual(self.told(write_backs, 1, 2, 3, 4, 999), [3, 3, 2, 0, 0])
        sync(self.s, "f")
        self.assertEqual(self.told(write_backs, 1, 2, 3, 4, 999), [3, 3, 3, 3, 3])
        sync(self.s, "f")
        self.write(8)
        drop_cache(self.s)
        self.assertEqual(self.told(write_backs, 1, 2, 3, 4, 999), [4, 4, 4, 4, 4])

    def test_a_page_that_comes_back_clean(self):
        self.write(8)
        self.read(9, 8, 10, 11, 0)
        self.write(0)
        self.assertEqual(self.told(write_backs, 1, 2, 3, 4, 5), [1, 1, 1, 0, 0])
        self.write(8, 0)
        self.assertEqual(self.told(write_backs, 1, 2, 3, 4, 5), [2, 1, 1, 0, 0])

    def test_what_is_truncated_is_not_written_back(self):
        self.write(8, 9, 10, 0, 1)
        self.assertEqual(self.told(write_backs, 1, 2, 3, 4, 5), [3, 3, 2, 1, 0])
        truncate(self.s, "f", 1)
        sync(self.s, "f")
        self.assertEqual(self.told(write_backs, 1, 2, 3, 4, 5), [3, 3, 2, 1, 1])

    def test_least_slots(self):
        self.write(0, 8, 1, 12)
        self.assertEqual(self.told(least_slots, 1, 2, 3, 4, 999), [2, 1, 1, 0, 0])
        self.read(9, 10)
        self.assertEqual(self.told(least_slots, 1, 2, 3, 4, 5, 6), [3, 3, 2, 1, 1, 0])
        unmap(self.s, self.p, 0, 16)
        self.assertEqual(self.told(least_slots, 1, 2, 3, 4, 5, 6), [3, 3, 2, 1, 1, 0])

    def test_the_slot_of_what_comes_is_free(self):
        self.write(0, 1, 2)
        self.read(0, 1, 2, 0, 2, 1)
        self.assertEqual(self.told(least_slots, 1, 2, 3), [2, 1, 0])

    def test_the_slots_in_the_middle_of_a_step(self):
        map_pages(self.s, self.p, 1, source=("file", "f"), at=1)
        self.write(0, 1)
        c = fork(self.s, self.p)
        unmap(self.s, c, 1, 1)
        drop(self.s, self.p, 1, 1)
        self.assertEqual(self.told(least_slots, 1, 2, 3), [1, 1, 0])
        write(self.s, c, 0, 1)
        self.assertEqual(self.told(least_slots, 1, 2, 3), [1, 1, 0])

    def test_slots_are_told_behind_any_touch(self):
        self.write(0)
        need(self.s, self.p, 0, 12)
        unmap(self.s, self.p, 0, 1)
        self.assertEqual(self.told(least_slots, 1, 2, 3, 4, 5), [1, 1, 1, 1, 0])

    def test_merge_frees_slots(self):
        flag(self.s, self.p, 0, 8, merge=True)
        self.write(0, 1, 2)
        merge(self.s)
        self.write(3)
        self.assertEqual(self.told(least_slots, 1, 2, 3), [2, 1, 0])
        write(self.s, self.p, 4, 7)
        self.assertEqual(self.told(least_slots, 1, 2, 3), [2, 1, 0])

    def test_least_frames(self):
        self.write(0, 1, 2, 3)
        self.read(1, 0, 3, 3, 2)
        self.assertEqual(distances(self.s)[4:], [3, 4, 3, 1, 4])
        self.assertEqual([least_frames(self.s, count) for count in range(7)], [4, 4, 3, 3, 1, 1, 1])
        self.assertEqual(least_frames(self.s, HUGE), 1)
        for count in range(6):
            least = least_frames(self.s, count)
            self.assertLessEqual(faults(self.s, least), count)
            self.assertTrue(least == 1 or faults(self.s, least - 1) > count)

    def test_least_frames_above_999(self):
        s = System()
        made = [spawn(s), spawn(s)]
        for p in made:
            map_pages(s, p, 512)
            for number in range(512):
                write(s, p, 4 * number, 1)
        for number in range(4):
            read(s, made[0], 4 * number)
        self.assertEqual([least_frames(s, count) for count in (0, 3, 4)], [1024, 1024, 1])
        self.assertEqual((faults(s, 999), swap_outs(s, 999), least_slots(s, 999)), (4, 29, 25))
        self.assertEqual(best_faults(s, 999), 0)

    def test_disk_if(self):
        self.write(8, 9, 0)
        self.assertEqual([[content[0] for content in disk_if(self.s, frames, "f")] for frames in (1, 2, 3, 999)],
                         [[1, 1, 0, 0], [1, 0, 0, 0], [0, 0, 0, 0], [0, 0, 0, 0]])
        write_page(self.s, "f", 0, TWOS)
        self.read(9)
        write_page(self.s, "f", 1, TWOS)
        self.assertEqual([[content[0] for content in disk_if(self.s, frames, "f")] for frames in (1, 2, 3, 4)],
                         [[2, 1, 0, 0], [1, 1, 0, 0], [0, 0, 0, 0], [0, 0, 0, 0]])
        sync(self.s, "f")
        for frames in (1, 2, 3, 999):
            self.assertEqual(disk_if(self.s, frames, "f"), [TWOS, TWOS, ZEROS, ZEROS])

    def test_disk_if_behind_truncate_and_drop_cache(self):
        self.write(8, 9, 10)
        truncate(self.s, "f", 2)
        self.assertEqual([disk_if(self.s, frames, "f") for frames in (1, 2, 3)],
                         [[(1, 0, 0, 0)] * 2, [(1, 0, 0, 0), ZEROS], [ZEROS] * 2])
        truncate(self.s, "f", 3)
        drop_cache(self.s)
        for frames in (1, 2, 3):
            self.assertEqual(disk_if(self.s, frames, "f"), [(1, 0, 0, 0), (1, 0, 0, 0), ZEROS])
        create(self.s, "e", 0)
        self.assertEqual(disk_if(self.s, 1, "e"), [])


class WrongQuestions(Case):

    def test_frames(self):
        self.write(0)
        for frames in WRONG:
            for question in BY_FRAMES:
                refuses(self, self.s, "NoPages", "frames", question, frames)
            refuses(self, self.s, "NoPages", "frames", disk_if, frames, "f")
            refuses(self, self.s, "NoPages", "frames", disk_if, frames, "x")

    def test_names(self):
        for name in ODD + (None, "g", "F", 1):
            refuses(self, self.s, "NoFile", name, disk_if, 1, name)

    def test_counts(self):
        self.write(0)
        for count in ODD + (None, -1, -HUGE):
            refuses(self, self.s, "NoPages", "count", least_frames, count)

    def test_after_a_crash(self):
        self.write(0, 8)
        crash(self.s)
        for _ in range(2):
            for question in BY_FRAMES:
                refuses(self, self.s, "NoHistory", None, question, 1)
                refuses(self, self.s, "NoPages", "frames", question, 0)
            refuses(self, self.s, "NoHistory", None, disk_if, 999, "f")
            refuses(self, self.s, "NoPages", "frames", disk_if, 1000, "x")
            refuses(self, self.s, "NoFile", "x", disk_if, 1, "x")
            refuses(self, self.s, "NoHistory", None, least_frames, 0)
            refuses(self, self.s, "NoPages", "count", least_frames, -1)
            read_page(self.s, "f", 0)
        self.assertEqual((distances(self.s), working(self.s, 9)), ([None, None, None, 1], 2))

    def test_a_crash_before_the_first_touch(self):
        s = System()
        crash(s)
        refuses(self, s, "NoHistory", None, faults, 1)
        refuses(self, s, "NoHistory", None, least_frames, 0)

    def test_lists_are_new(self):
        disk_if(self.s, 1, "f").append(1)
        self.assertEqual(disk_if(self.s, 1, "f"), [ZEROS] * 4)


class Slots(Case):
    """Slots that are enough, and one slot fewer (7.3, 8.2, 8.3)."""

    def present(self):
        return [in_memory(self.s, (self.p, number)) for number in range(16)]

    def scene(self, **named):
        """What is in memory behind each step, up to the first NoRoom."""
        self.make(**named)
        rows = []
        try:
            for number in (0, 8, 1, 12, 9, 2, 0, 10, 12, 3, 8, 1):
                self.write(number)
                rows.append(self.present())
        except errors.NoRoom:
            rows.append("NoRoom")
        return rows

    def test_enough(self):
        self.scene()
        for frames in range(1, 7):
            slots = least_slots(self.s, frames)
            want = self.scene(frames=frames)
            numbers = counts(self.s)
            self.assertEqual((self.scene(frames=frames, slots=slots), counts(self.s)), (want, numbers))
            self.assertEqual(least_slots(self.s, frames), slots)
            if slots > 0:
                self.assertNotEqual(self.scene(frames=frames, slots=slots - 1), want)

    def test_no_room_if_only_classes_are_touched(self):
        for frames in range(1, 5):
            self.make(frames=frames)
            self.write(0, 1, 2, 3, 4)
            slots = least_slots(self.s, frames)
            self.assertEqual(slots, 5 - frames)
            self.make(frames=frames, slots=slots)
            self.write(0, 1, 2, 3, 4)
            self.make(frames=frames, slots=slots - 1)
            self.write(0, 1, 2, 3)
            refuses(self, self.s, "NoRoom", None, write, self.p, 16, 1)


class Twins:
    """Systems that are given the same random steps, but have different numbers of frames."""

    def __init__(self, case, draw, numbers):
        self.case = case
        self.draw = draw
        self.base = System()
        self.twins = {frames: System(frames=frames) for frames in numbers}
        self.done = []

    def step(self, without=("crash",)):
        name, args, named = self.draw.step(View(self.base))
        if name in without:
            return
        result = self.outcome(self.base, name, args, named)
        for frames, twin in list(self.twins.items()):
            told = self.outcome(twin, name, args, named)
            if told == ("raises", "NoLock", None):
                self.give_up(frames)
            else:
                self.case.assertEqual(told, result)
        if result[0] == "gives":
            self.done.append((name, args, named))

    def give_up(self, frames):
        """There are as many locked pages as frames."""
        del self.twins[frames]
        for question in BY_FRAMES + (best_faults,):
            refuses(self.case, self.base, "NoPages", "frames", question, frames)
        self.case.assertGreater(least_frames(self.base, 10 ** 9), frames)

    def outcome(self, system, name, args, named):
        try:
            return "gives", STEPS[name](system, *args, **named)
        except errors.PageError as error:
            return "raises", error.__class__.__name__, getattr(error, "page", 0)

    def compare(self):
        base, equal = self.base, self.case.assertEqual
        for frames, twin in self.twins.items():
            equal({"faults": faults(base, frames), "swap_outs": swap_outs(base, frames),
                   "write_backs": write_backs(base, frames)}, counts(twin))
            for name in files(base):
                equal(disk_if(base, frames, name), disk(twin, name))
            for process, table in base.tables.items():
                for number in table:
                    at = position(base, (process, number))
                    equal(in_memory(twin, (process, number)), at is not None and at <= frames)
            for question in BY_FRAMES:
                equal([question(twin, number) for number in range(frames, 12)],
                      [question(base, number) for number in range(frames, 12)])
            log = [distance is not None and distance > frames for distance in distances(base)]
            least, greatest = fits(base, log)
            case = self.case
            case.assertTrue(least <= frames and (greatest is None or frames <= greatest))
            equal([faults(base, number) for number in (least, greatest or 999)], [faults(base, frames)] * 2)
            case.assertLessEqual(least_frames(base, faults(base, frames)), frames)


class RealSystems(unittest.TestCase):

    def beside_real_systems(self, draws, steps):
        """Return for how many numbers of frames all went well to the end."""
        left = 0
        for draw in draws:
            twins = Twins(self, draw, (1, 2, 3, 4, 5, 6, 7, 9, 64))
            with self.subTest(draw=draws.index(draw)):
                for number in range(1, steps + 1):
                    twins.step()
                    if number % 20 == 0:
                        twins.compare()
            left += len(twins.twins)
        return left

    def test_beside_real_systems(self):
        self.assertGreater(self.beside_real_systems([Draw(5000 + seed) for seed in range(12)], 500), 60)

    def test_beside_real_systems_with_locks_and_merges(self):
        self.assertGreater(self.beside_real_systems([Busy(5100 + seed) for seed in range(16)], 400), 32)

    def draw(self, seed):
        return Draw(6000 + seed) if seed < 4 else Busy(6000 + seed)

    def test_slots_beside_the_model(self):
        """The greatest number of slots behind any touch, and that as many slots are enough."""
        for seed in range(8):
            twins = Twins(self, self.draw(seed), (1, 2, 4, 7))
            for number in range(120):
                twins.step()
            for frames, twin in twins.twins.items():
                with self.subTest(seed=seed, frames=frames):
                    model = Model(frames)
                    for name, args, named in twins.done:
                        model.perform(name, *args, **named)
                    slots = least_slots(twins.base, frames)
                    self.assertEqual((slots, model.counts), (model.most_slots, counts(twin)))
                    enough = System(frames=frames, slots=slots)
                    for name, args, named in twins.done:
                        STEPS[name](enough, *args, **named)
                    self.assertEqual(counts(enough), counts(twin))


if __name__ == "__main__":
    unittest.main()
