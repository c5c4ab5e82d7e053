"""The cache and the disk of files, what leaves the memory, and crashes (3.3, 3.5, 8.2)."""

import unittest

from pageclass.access import drop, need, read, write
from pageclass.files import create, crash, disk, drop_cache, files, read_page, size, sync, truncate, write_page
from pageclass.merging import merge
from pageclass.sharing import count
from pageclass.spaces import flag, map_pages, regions, unmap
from pageclass.systems import System, fork, fresh, leave, now, processes, spawn
from support import cached, has_frame, kept, refuses, touched

ZEROS = (0, 0, 0, 0)
ONES = (1, 1, 1, 1)
TWOS = (2, 2, 2, 2)


def page(index, name="f"):
    return ("file", name, index)


class Case(unittest.TestCase):

    def make(self, **named):
        """A system with a process of eight pages, and a file of eight pages, f."""
        self.s = System(**named)
        self.p = spawn(self.s)
        map_pages(self.s, self.p, 8)
        create(self.s, "f", 8)

    def dirty(self, *indexes):
        for index in indexes:
            write_page(self.s, "f", index, ONES)

    def on_disk(self):
        """The indexes of the pages of f that are not zeros on the disk."""
        return [index for index, content in enumerate(disk(self.s, "f")) if content != ZEROS]

    def write(self, *numbers):
        for number in numbers:
            write(self.s, self.p, 4 * number, 1)


class WritingBack(Case):

    def test_a_write_does_not_reach_the_disk(self):
        self.make()
        at = map_pages(self.s, self.p, 1, source=("file", "f"), shared=True)
        self.dirty(1)
        write(self.s, self.p, 4 * at, 1)
        self.assertEqual(self.on_disk(), [])
        self.assertEqual((read_page(self.s, "f", 0), read_page(self.s, "f", 1)), ((1, 0, 0, 0), ONES))

    def test_sync_writes_the_pages_of_one_file(self):
        self.make()
        create(self.s, "g", 1)
        self.dirty(0, 7)
        write_page(self.s, "g", 0, ONES)
        self.assertIsNone(sync(self.s, "f"))
        self.assertEqual((self.on_disk(), disk(self.s, "g")), ([0, 7], [ZEROS]))
        self.assertEqual(disk(self.s, "f")[7], ONES)

    def test_the_disk_keeps_what_sync_wrote(self):
        self.make()
        self.dirty(0)
        sync(self.s, "f")
        write_page(self.s, "f", 0, TWOS)
        self.assertEqual((disk(self.s, "f")[0], read_page(self.s, "f", 0)), (ONES, TWOS))
        sync(self.s, "f")
        self.assertEqual(disk(self.s, "f")[0], TWOS)

    def test_sync_and_drop_cache_touch_nothing(self):
        self.make()
        self.dirty(0)
        before = touched(self.s)
        sync(self.s, "f")
        self.assertEqual(cached(self.s), [page(0)])
        drop_cache(self.s)
        self.assertEqual((touched(self.s), cached(self.s)), (before, []))

    def test_drop_cache_writes_the_pages_of_all_files(self):
        self.make()
        create(self.s, "g", 1)
        self.dirty(3)
        write_page(self.s, "g", 0, ONES)
        read_page(self.s, "f", 1)
        self.write(0)
        self.assertIsNone(drop_cache(self.s))
        self.assertEqual((self.on_disk(), disk(self.s, "g"), cached(self.s)), ([3], [ONES], ["private"]))
        self.assertEqual(read_page(self.s, "f", 3), ONES)

    def test_a_dirty_page_that_is_truncated_is_not_written_back(self):
        self.make()
        self.dirty(0, 1, 7)
        truncate(self.s, "f", 1)
        self.assertEqual((disk(self.s, "f"), cached(self.s)), ([ZEROS], [page(0)]))
        truncate(self.s, "f", 8)
        sync(self.s, "f")
        self.assertEqual((self.on_disk(), cached(self.s)), ([0], [page(0)]))

    def test_truncate_leaves_what_is_dirty(self):
        self.make()
        self.dirty(0)
        truncate(self.s, "f", 2)
        self.assertEqual((self.on_disk(), read_page(self.s, "f", 0)), ([], ONES))
        sync(self.s, "f")
        self.assertEqual(self.on_disk(), [0])

    def test_without_limits_nothing_leaves(self):
        self.make(slots=0)
        self.dirty(*range(8))
        self.write(*range(8))
        self.assertEqual((self.on_disk(), len(cached(self.s))), ([], 16))

    def test_disk_and_no_file(self):
        self.make()
        for step in (sync, disk):
            refuses(self, self.s, "NoFile", "g", step, "g")


class Leaving(Case):
    """Which item leaves when another one comes (8.2)."""

    def test_the_page_touched_least_recently_leaves(self):
        self.make(frames=2)
        self.dirty(0, 1)
        self.assertEqual(self.on_disk(), [])
        self.dirty(2)
        self.assertEqual((self.on_disk(), cached(self.s)), ([0], [page(1), page(2)]))
        read_page(self.s, "f", 1)
        read_page(self.s, "f", 3)
        self.assertEqual((self.on_disk(), cached(self.s)), ([0, 2], [page(1), page(3)]))

    def test_nothing_leaves_for_what_is_in_memory(self):
        self.make(frames=2)
        self.dirty(0, 1, 1, 0, 0)
        read_page(self.s, "f", 1)
        self.assertEqual((self.on_disk(), cached(self.s)), ([], [page(0), page(1)]))

    def test_each_touch_counts(self):
        self.make(frames=2)
        at = map_pages(self.s, self.p, 2, source=("file", "f"), shared=True)
        for touch in (lambda: read_page(self.s, "f", 0), lambda: write_page(self.s, "f", 0, ONES),
                      lambda: read(self.s, self.p, 4 * at), lambda: write(self.s, self.p, 4 * at, 1),
                      lambda: need(self.s, self.p, at, 1)):
            drop_cache(self.s)
            read_page(self.s, "f", 0)
            read_page(self.s, "f", 1)
            touch()
            read_page(self.s, "f", 2)
            self.assertEqual(cached(self.s), [page(0), page(2)])

    def test_a_page_comes_back_as_it_was(self):
        self.make(frames=1)
        self.dirty(0, 1)
        self.assertEqual(read_page(self.s, "f", 0), ONES)
        write_page(self.s, "f", 0, TWOS)
        self.assertEqual(self.on_disk(), [0, 1])
        self.assertEqual(disk(self.s, "f")[:2], [ONES, ONES])
        read_page(self.s, "f", 1)
        self.assertEqual(disk(self.s, "f")[:2], [TWOS, ONES])

    def test_classes_push_pages_out(self):
        self.make(frames=2)
        self.dirty(0, 1)
        self.write(0)
        self.assertEqual((self.on_disk(), cached(self.s)), ([0], [page(1), "private"]))
        map_pages(self.s, self.p, 1, shared=True, at=1)
        self.write(1)
        self.assertEqual((self.on_disk(), cached(self.s)), ([0, 1], [("object", 1, 0), "private"]))

    def test_pages_push_classes_into_slots(self):
        self.make(frames=2, slots=2)
        self.write(0, 1)
        self.dirty(0, 1)
        self.assertEqual(cached(self.s), [page(0), page(1)])
        self.assertEqual((read(self.s, self.p, 0), read(self.s, self.p, 4)), (1, 1))
        self.assertEqual((self.on_disk(), cached(self.s)), ([0, 1], ["private"] * 2))

    def test_a_class_without_a_slot_stays(self):
        self.make(frames=2, slots=0)
        self.write(0)
        self.dirty(0)
        self.assertEqual(self.on_disk(), [])
        self.dirty(1)
        self.assertEqual((self.on_disk(), cached(self.s)), ([0], [page(1), "private"]))
        self.write(1)
        self.assertEqual((self.on_disk(), cached(self.s)), ([0, 1], ["private"] * 2))

    def test_the_only_slot_is_taken(self):
        self.make(frames=2, slots=1)
        self.write(0, 1)
        self.dirty(0)
        self.assertEqual(cached(self.s), [page(0), "private"])
        self.dirty(1)
        self.assertEqual((self.on_disk(), cached(self.s)), ([0], [page(1), "private"]))

    def test_the_slot_of_the_class_that_comes_is_free(self):
        self.make(frames=2, slots=1)
        self.write(0, 1, 2)
        for number in (0, 1, 2, 0, 1, 2, 1, 0, 0, 2):
            self.assertEqual(read(self.s, self.p, 4 * number), 1)
            self.assertEqual(cached(self.s), ["private"] * 2)
            self.assertTrue(has_frame(self.s, self.p, number))

    def test_the_slot_of_a_class_that_came_back_is_free(self):
        self.make(frames=1, slots=1)
        self.write(0)
        self.dirty(0)
        read(self.s, self.p, 0)
        self.assertEqual((self.on_disk(), cached(self.s)), ([0], ["private"]))
        self.dirty(1)
        self.assertEqual((self.on_disk(), cached(self.s)), ([0], [page(1)]))

    def test_the_slot_of_a_class_that_is_gone_is_free(self):
        self.make(frames=1, slots=1)
        self.write(0, 1)
        for gone in (lambda: drop(self.s, self.p, 0, 1), lambda: unmap(self.s, self.p, 1, 1)):
            gone()
            read_page(self.s, "f", 0)
            self.assertEqual(cached(self.s), [page(0)] if kept(self.s) else [])
            self.write(3)
            read(self.s, self.p, 12)

    def test_a_frame_of_an_item_that_is_gone_is_free(self):
        self.make(frames=2)
        self.dirty(0)
        self.write(0)
        drop(self.s, self.p, 0, 1)
        self.dirty(1)
        self.assertEqual((self.on_disk(), cached(self.s)), ([], [page(0), page(1)]))
        truncate(self.s, "f", 1)
        self.write(0)
        self.assertEqual((self.on_disk(), cached(self.s)), ([], [page(0), "private"]))

    def test_an_object_page_that_is_gone(self):
        self.make(frames=2, slots=0)
        at = map_pages(self.s, self.p, 2, shared=True)
        self.write(at, at + 1)
        refuses(self, self.s, "NoRoom", None, write, self.p, 0, 1)
        unmap(self.s, self.p, at, 1)
        self.assertEqual(cached(self.s), [("object", 1, 1)])
        self.dirty(0)
        self.assertEqual(self.on_disk(), [])

    def test_a_copy_touches_what_it_copies_first(self):
        self.make(frames=2)
        at = map_pages(self.s, self.p, 1, source=("file", "f"))
        self.dirty(0, 1)
        self.write(at)
        self.assertEqual((self.on_disk(), cached(self.s)), ([1], [page(0), "private"]))

    def test_a_copy_with_one_frame(self):
        self.make(frames=1)
        at = map_pages(self.s, self.p, 1, source=("file", "f"))
        self.dirty(0)
        self.write(at)
        self.assertEqual((self.on_disk(), cached(self.s)), ([0], ["private"]))
        c = fork(self.s, self.p)
        write(self.s, c, 4 * at + 1, 7)
        self.assertEqual([read(self.s, process, 4 * at + 1) for process in (self.p, c)], [1, 7])

    def test_a_step_that_raises_brings_nothing(self):
        self.make(frames=1, slots=0)
        at = map_pages(self.s, self.p, 1, source=("file", "f"))
        self.write(0)
        refuses(self, self.s, "NoRoom", None, write, self.p, 4 * at, 1)
        refuses(self, self.s, "NoPages", "content", write_page, "f", 0, None)
        self.assertEqual(cached(self.s), ["private"])


class BesideTheCache(Case):
    """A file page for which nothing can leave is read and written on the disk (8.2)."""

    def setUp(self):
        self.make(frames=2, slots=1)
        self.write(0, 1, 2)

    def test_written_on_the_disk(self):
        at = map_pages(self.s, self.p, 1, source=("file", "f"), shared=True, index=1)
        self.dirty(0)
        self.write(at)
        self.assertEqual((self.on_disk(), cached(self.s)), ([0, 1], ["private"] * 2))
        self.assertEqual(disk(self.s, "f")[:2], [ONES, (1, 0, 0, 0)])

    def test_read_from_the_disk(self):
        self.dirty(0)
        self.assertEqual(read_page(self.s, "f", 0), ONES)
        self.assertEqual(read_page(self.s, "f", 1), ZEROS)
        self.assertEqual(cached(self.s), ["private"] * 2)

    def test_it_is_a_touch(self):
        before = len(touched(self.s))
        self.dirty(0)
        read_page(self.s, "f", 0)
        self.assertEqual(touched(self.s)[before:], [page(0)] * 2)

    def test_it_is_not_dirty(self):
        self.dirty(0)
        crash(self.s)
        self.assertEqual((read_page(self.s, "f", 0), self.on_disk()), (ONES, [0]))

    def test_it_comes_when_there_is_room_again(self):
        self.dirty(0)
        drop(self.s, self.p, 0, 1)
        write_page(self.s, "f", 0, TWOS)
        self.assertEqual((disk(self.s, "f")[0], cached(self.s)), (ONES, [page(0), "private"]))


class Crashing(Case):

    def test_processes_end(self):
        self.make()
        fork(self.s, self.p)
        self.write(0)
        self.assertIsNone(crash(self.s))
        self.assertEqual((processes(self.s), count(self.s), cached(self.s)), ([], (0, 0, 0), []))
        for process in (1, 2):
            refuses(self, self.s, "NoProcess", process, read, process, 0)

    def test_files_have_what_is_on_the_disk(self):
        self.make()
        create(self.s, "g", 2)
        self.dirty(0, 1)
        sync(self.s, "f")
        write_page(self.s, "f", 0, TWOS)
        write_page(self.s, "f", 2, TWOS)
        write_page(self.s, "g", 0, TWOS)
        truncate(self.s, "g", 3)
        crash(self.s)
        self.assertEqual((files(self.s), size(self.s, "f"), size(self.s, "g")), (["f", "g"], 8, 3))
        self.assertEqual([read_page(self.s, "f", index) for index in range(3)], [ONES, ONES, ZEROS])
        self.assertEqual([read_page(self.s, "g", index) for index in range(3)], [ZEROS] * 3)
        self.assertEqual(disk(self.s, "f"), [ONES, ONES] + [ZEROS] * 6)

    def test_the_cache_is_gone(self):
        self.make(frames=2, slots=0)
        self.dirty(0, 1)
        crash(self.s)
        self.assertEqual(cached(self.s), [])
        self.dirty(2, 3)
        self.assertEqual((self.on_disk(), cached(self.s)), ([], [page(2), page(3)]))

    def test_what_was_lost_is_not_written_back_later(self):
        self.make()
        self.dirty(0)
        crash(self.s)
        sync(self.s, "f")
        drop_cache(self.s)
        self.assertEqual(self.on_disk(), [])

    def test_what_was_truncated_stays_so(self):
        self.make()
        self.dirty(0)
        truncate(self.s, "f", 0)
        crash(self.s)
        self.assertEqual(size(self.s, "f"), 0)
        truncate(self.s, "f", 1)
        self.assertEqual(read_page(self.s, "f", 0), ZEROS)

    def test_objects_are_gone(self):
        self.make()
        at = map_pages(self.s, self.p, 1, shared=True)
        self.write(at)
        crash(self.s)
        q = spawn(self.s)
        refuses(self, self.s, "NoPages", "source", map_pages, q, 1, shared=True, source=("object", 1))

    def test_numbers_go_on(self):
        self.make()
        map_pages(self.s, self.p, 1, shared=True)
        fork(self.s, self.p)
        before = now(self.s)
        crash(self.s)
        self.assertEqual(now(self.s), before + 1)
        q = spawn(self.s)
        map_pages(self.s, q, 1, shared=True)
        self.assertEqual((q, regions(self.s, q)), (3, [(0, 1, "rw", True, ("object", 2), 0, ())]))

    def test_memory_and_slots_are_free_again(self):
        self.make(frames=1, slots=1)
        self.write(0, 1)
        crash(self.s)
        q = spawn(self.s)
        map_pages(self.s, q, 3)
        write(self.s, q, 0, 1)
        write(self.s, q, 4, 1)
        refuses(self, self.s, "NoRoom", None, write, q, 8, 1)

    def test_it_touches_nothing(self):
        self.make()
        self.dirty(0)
        before = touched(self.s)
        crash(self.s)
        self.assertEqual(touched(self.s), before)

    def test_an_empty_system(self):
        s = System()
        crash(s)
        crash(s)
        drop_cache(s)
        self.assertEqual((now(s), files(s), processes(s), spawn(s)), (3, [], [], 1))


class Merged(Case):
    """The class that merge leaves is in memory if one of them was (4.1)."""

    def test_the_class_that_is_left(self):
        self.make(frames=2)
        flag(self.s, self.p, 0, 8, merge=True)
        self.write(0, 1, 2)
        self.assertEqual(merge(self.s), 2)
        self.assertEqual(cached(self.s), ["private"])
        self.dirty(0)
        self.assertEqual(cached(self.s), [page(0), "private"])

    def test_it_is_in_a_slot_if_none_was_in_memory(self):
        self.make(frames=2)
        flag(self.s, self.p, 0, 8, merge=True)
        self.write(0, 1)
        self.dirty(0, 1)
        self.assertEqual(merge(self.s), 1)
        self.assertEqual(cached(self.s), [page(0), page(1)])
        read(self.s, self.p, 0)
        self.assertEqual((self.on_disk(), cached(self.s)), ([0], [page(1), "private"]))

    def test_it_has_the_least_of_the_positions(self):
        for numbers in ((0, 1), (1, 0)):
            self.make(frames=3)
            flag(self.s, self.p, 0, 8, merge=True)
            self.write(numbers[0])
            self.dirty(0)
            self.write(numbers[1])
            self.assertEqual(merge(self.s), 1)
            self.dirty(1, 2)
            self.assertEqual((self.on_disk(), cached(self.s)), ([0], [page(1), page(2), "private"]))

    def test_slots_are_free_again(self):
        self.make(frames=1, slots=2)
        flag(self.s, self.p, 0, 8, merge=True)
        self.write(0, 1, 2)
        self.dirty(0)
        self.assertEqual(self.on_disk(), [0])
        merge(self.s)
        self.dirty(1)
        self.assertEqual((self.on_disk(), cached(self.s)), ([0], [page(1)]))


class Unlimited(unittest.TestCase):
    """Systems that differ only in frames, slots and strict answer alike, but for what is on the disk (0.4)."""

    def answers(self, **named):
        s = System(**named)
        p = spawn(s)
        create(s, "f", 3)
        map_pages(s, p, 3, source=("file", "f"))
        map_pages(s, p, 2, source=("file", "f"), index=1, shared=True)
        map_pages(s, p, 2, shared=True)
        c = fork(s, p)
        told = []
        for number in (0, 3, 5, 1, 2, 4, 6, 0):
            write(s, c, 4 * number + 1, 9)
            write_page(s, "f", number // 3, (number, number, 0, 0))
            told += [read(s, p, 4 * k + cell) for k in range(7) for cell in range(2)]
            told.append((count(s), now(s), size(s, "f")))
        leave(s, c)
        fresh(s, p)
        return told + [read_page(s, "f", index) for index in range(3)]

    def test_alike(self):
        first = self.answers()
        for frames in (1, 2, 3, 64):
            self.assertEqual(self.answers(frames=frames), first)
            self.assertEqual(self.answers(frames=frames, slots=14), first)
            self.assertEqual(self.answers(frames=frames, slots=14, strict=True), first)
        self.assertEqual(self.answers(slots=0), first)


if __name__ == "__main__":
    unittest.main()
