"""What is in memory behind each step, and the numbers of what came and went (8.1, 8.2)."""

import unittest

from pageclass.access import drop, need, write
from pageclass.files import create, crash, disk, drop_cache, read_page, sync, truncate, write_page
from pageclass.memory import counts, in_memory
from pageclass.merging import merge
from pageclass.positions import position
from pageclass.spaces import flag, unmap
from pageclass.systems import System, fork, fresh
from scene import Scene
from support import asks_place, refuses

ONES = (1, 1, 1, 1)
ZEROS = (0, 0, 0, 0)


class Case(Scene):

    def present(self):
        return [number for number in range(16) if in_memory(self.s, (self.p, number))]

    def told(self, faults, swap_outs, write_backs):
        self.assertEqual(counts(self.s), {"faults": faults, "swap_outs": swap_outs, "write_backs": write_backs})


class InMemory(Case):

    def test_without_frames_all_that_was_touched(self):
        self.make(slots=0)
        self.write(0, 1, 8, 12)
        self.read(2, 9, 13)
        self.assertEqual(self.present(), [0, 1, 8, 9, 12])

    def test_with_frames_the_first_positions(self):
        for frames in (1, 2, 3, 5, 64):
            self.make(frames=frames)
            for number in (0, 8, 12, 1, 9, 0, 13, 8, 8, 2, 12, 1):
                self.write(number)
                first = [page for page in range(16) if (position(self.s, (self.p, page)) or 99) <= frames]
                self.assertEqual(self.present(), first)

    def test_one_frame(self):
        self.make(frames=1)
        self.write(0, 1)
        self.assertEqual(self.present(), [1])
        self.read(0)
        self.assertEqual(self.present(), [0])
        self.read(8)
        self.assertEqual(self.present(), [8])
        self.read(2)
        self.assertEqual(self.present(), [8])

    def test_all_places_of_an_item(self):
        self.make(frames=1)
        self.write(0)
        c = fork(self.s, self.p)
        self.assertIs(in_memory(self.s, (c, 0)), True)
        write(self.s, c, 0, 2)
        self.assertEqual([in_memory(self.s, (process, 0)) for process in (self.p, c)], [False, True])

    def test_zeros_and_nothing(self):
        self.make()
        self.write(9)
        truncate(self.s, "f", 1)
        for number in (0, 8, 9, 12):
            self.assertIs(in_memory(self.s, (self.p, number)), False)

    def test_a_free_frame_is_taken_first(self):
        self.make(frames=3)
        self.write(0, 1, 2)
        drop(self.s, self.p, 1, 1)
        self.write(3)
        self.assertEqual(self.present(), [0, 2, 3])
        self.told(0, 0, 0)

    def test_few_slots(self):
        self.make(frames=2, slots=1)
        self.write(0, 1, 2)
        self.assertEqual(self.present(), [1, 2])
        self.read(8)
        self.assertEqual(self.present(), [1, 2])
        refuses(self, self.s, "NoRoom", None, write, self.p, 12, 1)
        self.read(0)
        self.assertEqual(self.present(), [0, 2])
        drop(self.s, self.p, 1, 1)
        self.read(8)
        self.assertEqual(self.present(), [0, 8])
        self.told(2, 3, 0)

    def test_a_file_page_leaves_ahead_of_classes_that_cannot(self):
        self.make(frames=3, slots=0)
        self.read(8)
        self.write(0, 1)
        self.read(9)
        self.assertEqual(self.present(), [0, 1, 9])
        self.write(2)
        self.assertEqual(self.present(), [0, 1, 2])
        self.read(10)
        self.assertEqual(self.present(), [0, 1, 2])
        self.told(0, 0, 0)

    def test_the_greatest_position_leaves_behind_a_merge(self):
        self.make(frames=3)
        flag(self.s, self.p, 0, 8, merge=True)
        self.write(0)
        self.read(8)
        self.write(1)
        self.assertEqual(merge(self.s), 1)
        self.read(9)
        self.assertEqual(self.present(), [0, 1, 8, 9])
        self.read(10)
        self.assertEqual(self.present(), [0, 1, 9, 10])

    def test_wrong_places(self):
        self.make(frames=1)
        asks_place(self, self.s, self.p, 16, in_memory)


class Counts(Case):

    def test_at_first(self):
        for named in ({}, {"frames": 1}, {"frames": 64, "slots": 256, "strict": True}):
            self.make(**named)
            self.told(0, 0, 0)

    def test_new_items_are_no_faults(self):
        self.make(frames=1)
        self.write(0, 8, 12)
        self.told(0, 1, 1)

    def test_faults(self):
        self.make(frames=2)
        self.write(0, 1, 12)
        self.told(0, 1, 0)
        self.read(1, 12, 1)
        self.told(0, 1, 0)
        self.read(0)
        self.told(1, 2, 0)
        need(self.s, self.p, 0, 16)
        self.told(2, 4, 0)

    def test_without_frames(self):
        self.make()
        self.write(*range(16))
        self.read(*range(16))
        self.told(0, 0, 0)
        sync(self.s, "f")
        self.told(0, 0, 4)

    def test_only_dirty_pages_are_written_back(self):
        self.make(frames=1)
        self.read(8, 9)
        self.told(0, 0, 0)
        self.write(8)
        self.read(9)
        self.told(2, 0, 1)
        self.read(8, 9)
        self.told(4, 0, 1)

    def test_a_write_of_the_same_value_makes_dirty(self):
        self.make(frames=1)
        write(self.s, self.p, 32, 0)
        self.read(9)
        self.told(0, 0, 1)
        write_page(self.s, "f", 0, ZEROS)
        sync(self.s, "f")
        self.told(1, 0, 2)

    def test_sync_and_drop_cache(self):
        self.make()
        create(self.s, "g", 2)
        for name in ("f", "g"):
            write_page(self.s, name, 0, ONES)
            write_page(self.s, name, 1, ONES)
        sync(self.s, "f")
        self.told(0, 0, 2)
        sync(self.s, "f")
        self.told(0, 0, 2)
        write_page(self.s, "f", 1, ONES)
        drop_cache(self.s)
        self.told(0, 0, 5)
        drop_cache(self.s)
        self.told(0, 0, 5)

    def test_what_was_truncated_is_not_written_back(self):
        self.make()
        self.write(8, 9, 10)
        truncate(self.s, "f", 1)
        self.told(0, 0, 0)
        truncate(self.s, "f", 4)
        sync(self.s, "f")
        self.told(0, 0, 1)

    def test_what_is_gone_is_no_swap_out(self):
        self.make(frames=2)
        self.write(0, 12)
        unmap(self.s, self.p, 0, 1)
        fresh(self.s, self.p)
        read_page(self.s, "f", 0)
        self.told(0, 0, 0)

    def test_what_left_with_the_cache_is_no_fault(self):
        self.make(frames=2)
        self.read(8)
        drop_cache(self.s)
        self.read(8)
        self.told(0, 0, 0)
        self.read(9, 10, 8)
        self.told(1, 0, 0)

    def test_beside_the_cache(self):
        self.make(frames=1, slots=0)
        self.write(0, 8)
        self.told(0, 0, 1)
        self.read(8)
        self.told(1, 0, 1)
        write_page(self.s, "f", 0, ONES)
        self.told(2, 0, 2)
        self.assertEqual(disk(self.s, "f")[0], ONES)
        sync(self.s, "f")
        drop_cache(self.s)
        self.told(2, 0, 2)
        self.read(8)
        self.told(2, 0, 2)

    def test_copies(self):
        self.make(frames=1)
        self.write(0)
        c = fork(self.s, self.p)
        self.write(1)
        write(self.s, c, 0, 2)
        self.told(1, 3, 0)

    def test_they_go_on_behind_a_crash(self):
        self.make(frames=1)
        self.write(0, 8)
        crash(self.s)
        self.told(0, 1, 0)
        read_page(self.s, "f", 0)
        self.told(0, 1, 0)
        write_page(self.s, "f", 1, ONES)
        read_page(self.s, "f", 0)
        self.told(1, 1, 1)

    def test_a_refused_step_counts_nothing(self):
        self.make(frames=1, slots=0)
        self.write(0)
        refuses(self, self.s, "NoRoom", None, write, self.p, 4, 1)
        refuses(self, self.s, "NoPages", "content", write_page, "f", 0, ())
        self.told(0, 0, 0)

    def test_the_dict_is_new(self):
        self.make()
        counts(self.s)["faults"] = 7
        counts(self.s).clear()
        self.told(0, 0, 0)

    def test_two_systems(self):
        self.make(frames=1)
        other = System(frames=1)
        self.write(0, 1, 0)
        self.assertEqual(counts(other), {"faults": 0, "swap_outs": 0, "write_backs": 0})


if __name__ == "__main__":
    unittest.main()
