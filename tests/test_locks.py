"""Locked pages, and the items that they keep in memory (9.5, 7.2, 7.3, 8.2)."""

import unittest

from pageclass.access import drop, need, read, write
from pageclass.charges import charge, reserve
from pageclass.choices import best_faults
from pageclass.files import create, crash, disk, drop_cache, read_page, truncate, write_page
from pageclass.locks import lock, unlock
from pageclass.memory import counts, in_memory
from pageclass.merging import merge
from pageclass.pictures import origin, stamp
from pageclass.positions import (disk_if, distances, faults, fits, least_frames, least_slots, position, swap_outs,
                                 write_backs)
from pageclass.sharing import next_write, same, users
from pageclass.spaces import flag, map_pages, move, protect, regions, unmap
from pageclass.systems import System, fork, fresh, leave, now, spawn
from scene import Scene
from support import kept, refuses, refuses_process, refuses_range

ONES = (1, 1, 1, 1)
FILE_0 = ("file", "f", 0)


class Case(Scene):

    shared_file = False
    has_object = False

    def lock(self, *numbers):
        for number in numbers:
            lock(self.s, self.p, number, 1)

    def unlock(self, *numbers):
        for number in numbers:
            unlock(self.s, self.p, number, 1)

    def flags(self, number):
        return [region[5 + 1] for region in regions(self.s, self.p) if region[0] <= number < region[0] + region[1]][0]

    def present(self):
        return [number for number in range(12) if in_memory(self.s, (self.p, number))]


class Locking(Case):

    def test_the_flag(self):
        flag(self.s, self.p, 1, 1, merge=True, wipe=True)
        self.assertIsNone(lock(self.s, self.p, 0, 2))
        self.assertEqual([self.flags(number) for number in (0, 1, 2)], [("lock",), ("lock", "merge", "wipe"), ()])
        self.assertIsNone(unlock(self.s, self.p, 1, 1))
        self.assertEqual([self.flags(number) for number in (0, 1, 2)], [("lock",), ("merge", "wipe"), ()])

    def test_they_are_steps(self):
        before = now(self.s)
        self.lock(0)
        self.unlock(0)
        self.assertEqual(now(self.s), before + 2)

    def test_an_untouched_page_holds_zeros(self):
        self.assertEqual((kept(self.s), next_write(self.s, (self.p, 0))), (0, "zeros"))
        self.lock(0)
        self.assertEqual((kept(self.s), next_write(self.s, (self.p, 0))), (1, "place"))
        self.assertEqual((read(self.s, self.p, 0), users(self.s, (self.p, 0))), (0, [(self.p, 0)]))

    def test_an_untouched_page_of_a_file_holds_a_copy(self):
        write_page(self.s, "f", 1, (5, 6, 7, 8))
        self.lock(9)
        write_page(self.s, "f", 1, ONES)
        self.assertEqual([read(self.s, self.p, 36 + cell) for cell in range(4)], [5, 6, 7, 8])
        truncate(self.s, "f", 0)
        self.assertEqual(read(self.s, self.p, 36), 5)
        self.unlock(9)
        self.assertEqual(read(self.s, self.p, 36), 5)

    def test_a_page_that_holds_a_class_keeps_it(self):
        self.write(0)
        c = fork(self.s, self.p)
        self.lock(0)
        self.assertEqual((kept(self.s), same(self.s, (self.p, 0), (c, 0))), (1, True))
        write(self.s, c, 0, 5)
        self.assertEqual((read(self.s, self.p, 0), read(self.s, c, 0)), (1, 5))

    def test_page_by_page(self):
        write_page(self.s, "f", 0, ONES)
        self.write(7)
        before = len(distances(self.s))
        lock(self.s, self.p, 6, 4)
        self.assertEqual(distances(self.s)[before:], [None, 2, 3, None, None, None])
        self.assertEqual(self.row(), [[6], [7], [8], [9], ("file", "f", 1), FILE_0])

    def test_a_page_that_is_locked_is_touched_again(self):
        self.lock(0, 1)
        self.lock(0, 0, 1)
        self.assertEqual((distances(self.s), self.row()), ([None, None, 1, 1, 2], [[0], [1]]))

    def test_no_cell_no_stamp(self):
        write_page(self.s, "f", 0, ONES)
        at = now(self.s)
        stamps = [stamp(self.s, (self.p, number)) for number in range(12)]
        self.assertEqual(stamps[8], at)
        lock(self.s, self.p, 0, 12)
        self.assertEqual([stamp(self.s, (self.p, number)) for number in range(12)], stamps)
        self.assertEqual([origin(self.s, (self.p, number)) for number in (0, 8, 9)], [None, at, None])

    def test_unlocking_what_is_not_locked(self):
        self.write(0)
        unlock(self.s, self.p, 0, 12)
        map_pages(self.s, self.p, 1, shared=True, at=20, rights="none")
        unlock(self.s, self.p, 20, 1)
        self.assertEqual((distances(self.s), self.row()), ([None], [[0]]))

    def test_a_class_that_two_pages_lock(self):
        self.write(0, 1)
        c = fork(self.s, self.p)
        self.lock(0)
        lock(self.s, c, 0, 1)
        self.unlock(0)
        self.read(1)
        self.assertEqual(self.row(), [[0], [1]])
        unlock(self.s, c, 0, 1)
        self.read(1)
        self.assertEqual(self.row(), [[1], [0]])

    def test_children_have_no_locks(self):
        self.lock(0)
        c = fork(self.s, self.p)
        self.assertEqual(regions(self.s, c)[0][:2] + regions(self.s, c)[0][6:], (0, 8, ()))
        self.assertTrue(same(self.s, (self.p, 0), (c, 0)))
        drop(self.s, c, 0, 1)
        protect(self.s, c, 0, 1, "r")

    def test_the_charge_stays(self):
        before = charge(self.s)
        lock(self.s, self.p, 0, 12)
        self.assertEqual((charge(self.s), reserve(self.s)), (before, 0))


class Errors(Case):

    def test_wrong_arguments(self):
        for step in (lock, unlock):
            refuses_process(self, self.s, step, 0, 1)
            refuses_range(self, self.s, self.p, step)

    def test_unmapped_pages(self):
        for step in (lock, unlock):
            refuses(self, self.s, "NotMapped", 12, step, self.p, 11, 3)
            refuses(self, self.s, "NotMapped", 511, step, self.p, 511, 1)

    def test_shared_pages_and_other_rights(self):
        map_pages(self.s, self.p, 1, shared=True)
        map_pages(self.s, self.p, 1, shared=True, source=("file", "f"))
        map_pages(self.s, self.p, 1, rights="r")
        map_pages(self.s, self.p, 1, rights="none")
        for number in range(12, 16):
            refuses(self, self.s, "NoLock", number, lock, self.p, number, 1)
            refuses(self, self.s, "NoLock", 12, lock, self.p, 0, number + 1)
            unlock(self.s, self.p, number, 1)
        self.write(0)
        protect(self.s, self.p, 0, 1, "r")
        refuses(self, self.s, "NoLock", 0, lock, self.p, 0, 1)

    def test_past_the_end(self):
        truncate(self.s, "f", 2)
        refuses(self, self.s, "PastEnd", 10, lock, self.p, 8, 4)
        map_pages(self.s, self.p, 1, rights="r")
        refuses(self, self.s, "NoLock", 12, lock, self.p, 8, 5)
        refuses(self, self.s, "NotMapped", 13, lock, self.p, 8, 6)
        unlock(self.s, self.p, 8, 4)

    def test_a_page_past_the_end_that_holds_a_class(self):
        self.write(11)
        truncate(self.s, "f", 0)
        self.lock(11)
        refuses(self, self.s, "PastEnd", 10, lock, self.p, 10, 2)

    def test_a_frame_is_left(self):
        for frames in (1, 2, 3, 9):
            self.make(frames=frames)
            refuses(self, self.s, "NoLock", None, lock, self.p, 0, frames)
            if frames > 1:
                lock(self.s, self.p, 0, frames - 1)
                lock(self.s, self.p, 0, frames - 1)
            refuses(self, self.s, "NoLock", None, lock, self.p, frames - 1, 1)
            refuses(self, self.s, "NoLock", None, lock, self.p, 0, frames)

    def test_all_processes_count(self):
        self.make(frames=3)
        self.lock(0)
        c = fork(self.s, self.p)
        lock(self.s, c, 0, 1)
        for process, number in ((self.p, 1), (c, 1), (spawn(self.s), None)):
            if number is not None:
                refuses(self, self.s, "NoLock", None, lock, process, number, 1)
        leave(self.s, c)
        self.lock(1)

    def test_without_frames_all_may_be_locked(self):
        self.make(slots=0)
        lock(self.s, self.p, 0, 12)
        self.assertEqual(len(self.row()), 16)

    def test_no_room(self):
        self.make(frames=3, slots=1)
        self.write(0, 1, 2)
        lock(self.s, self.p, 0, 1)
        refuses(self, self.s, "NoLock", None, lock, self.p, 2, 3)
        self.unlock(0)
        refuses(self, self.s, "NoRoom", None, lock, self.p, 3, 2)
        lock(self.s, self.p, 2, 2)
        self.unlock(2)
        refuses(self, self.s, "NoRoom", None, lock, self.p, 4, 1)
        self.lock(0)

    def test_the_order(self):
        self.make(frames=1, slots=0)
        truncate(self.s, "f", 0)
        self.write(0)
        refuses(self, self.s, "PastEnd", 8, lock, self.p, 7, 3)
        refuses(self, self.s, "NoLock", None, lock, self.p, 7, 1)

    def test_what_locked_pages_refuse(self):
        self.write(1)
        self.lock(1, 2)
        for rights in ("r", "none"):
            refuses(self, self.s, "NoLock", 1, protect, self.p, 0, 5, rights)
        refuses(self, self.s, "NoLock", 1, drop, self.p, 0, 5)
        refuses(self, self.s, "NoLock", 2, drop, self.p, 2, 1)
        protect(self.s, self.p, 0, 5, "rw")
        self.unlock(1, 2)
        protect(self.s, self.p, 0, 5, "r")
        drop(self.s, self.p, 0, 5)

    def test_strict_systems(self):
        self.make(frames=6, slots=6, strict=True)
        lock(self.s, self.p, 0, 5)
        need(self.s, self.p, 0, 12)
        self.write(*range(12))
        self.assertEqual((kept(self.s), charge(self.s)), (12, 12))


class TakenAway(Case):
    """Steps that may take locked pages away, or move them."""

    def setUp(self):
        self.make(frames=2)
        self.lock(0)

    def free_again(self):
        """Another page can be locked, and nothing else is."""
        lock(self.s, self.p, 7, 1)
        refuses(self, self.s, "NoLock", None, lock, self.p, 6, 1)

    def test_unmap(self):
        unmap(self.s, self.p, 0, 1)
        self.free_again()

    def test_map_pages(self):
        map_pages(self.s, self.p, 1, at=0)
        self.free_again()

    def test_fresh(self):
        fresh(self.s, self.p)
        map_pages(self.s, self.p, 8)
        self.free_again()

    def test_leave(self):
        c = fork(self.s, self.p)
        leave(self.s, self.p)
        self.p = c
        self.free_again()

    def test_crash(self):
        crash(self.s)
        self.p = spawn(self.s)
        map_pages(self.s, self.p, 8)
        self.assertEqual(self.row(), [])
        self.free_again()

    def test_a_move_takes_the_target_away(self):
        move(self.s, self.p, 3, 1, 0)
        self.free_again()

    def test_a_move_takes_the_lock_along(self):
        move(self.s, self.p, 0, 1, 100)
        self.assertEqual(self.flags(100), ("lock",))
        refuses(self, self.s, "NoLock", None, lock, self.p, 7, 1)
        self.assertEqual((self.row(), position(self.s, (self.p, 100))), ([[100]], 1))
        self.unlock(100)
        self.free_again()


class LockedPositions(Case):
    """Locked items have the first positions (7.2)."""

    def test_in_the_order_of_their_locking(self):
        self.write(0, 1, 2, 3)
        self.lock(1)
        self.assertEqual((self.row(), distances(self.s)[-1]), ([[1], [3], [2], [0]], 3))
        self.lock(0)
        self.assertEqual(self.row(), [[1], [0], [3], [2]])
        self.lock(3)
        self.assertEqual(self.row(), [[1], [0], [3], [2]])

    def test_a_locked_item_keeps_its_position(self):
        self.lock(0, 1)
        self.write(2, 3)
        self.read(1, 0, 2)
        self.write(1)
        self.assertEqual(self.row(), [[0], [1], [2], [3]])
        self.assertEqual(distances(self.s)[-4:], [2, 1, 4, 2])

    def test_others_come_behind_them(self):
        self.lock(0, 1)
        self.write(2, 3, 4)
        self.read(2)
        self.assertEqual(self.row(), [[0], [1], [2], [4], [3]])

    def test_unlocked_items_come_behind_locked_ones(self):
        self.lock(0, 1, 2)
        self.write(3)
        self.unlock(1)
        self.assertEqual(self.row(), [[0], [2], [1], [3]])
        self.read(3)
        self.assertEqual(self.row(), [[0], [2], [3], [1]])

    def test_several_that_are_unlocked_at_once_keep_their_order(self):
        self.lock(2, 0, 3, 1)
        self.write(4)
        unlock(self.s, self.p, 0, 3)
        self.assertEqual(self.row(), [[3], [2], [0], [1], [4]])

    def test_locked_items_that_are_gone(self):
        self.lock(0, 1, 2, 3)
        self.write(4)
        unmap(self.s, self.p, 0, 2)
        self.assertEqual(self.row(), [[2], [3], None, None, [4]])
        self.write(5)
        self.assertEqual(self.row(), [[2], [3], [5], None, [4]])

    def test_gone_and_unlocked_at_once(self):
        self.lock(0, 1, 2, 3)
        self.write(4)
        c = fork(self.s, self.p)
        unmap(self.s, c, 1, 1)
        unmap(self.s, self.p, 0, 3)
        self.assertEqual(self.row(), [[3], [], [], None, [4]])
        self.assertEqual([position(self.s, (c, number)) for number in (0, 2)], [2, 3])

    def test_locked_again(self):
        self.lock(0, 1)
        self.unlock(0)
        self.lock(0)
        self.assertEqual((self.row(), distances(self.s)[-1]), ([[1], [0]], 2))

    def test_a_copy_of_a_locked_page(self):
        self.lock(0, 1, 2)
        self.write(3)
        c = fork(self.s, self.p)
        before = len(distances(self.s))
        self.write(1)
        self.assertEqual(distances(self.s)[before:], [2, None])
        self.assertEqual(self.row(), [[0], [2], [1], [], [3]])
        self.assertEqual(position(self.s, (c, 1)), 4)

    def test_a_copy_of_a_class_that_stays_locked(self):
        self.lock(0)
        c = fork(self.s, self.p)
        lock(self.s, c, 0, 1)
        self.write(0)
        self.assertEqual([position(self.s, (process, 0)) for process in (self.p, c)], [2, 1])
        fork(self.s, self.p)
        fork(self.s, self.p)
        self.write(0)
        self.assertEqual([position(self.s, (process, 0)) for process in (self.p, c, c + 1, c + 2)], [2, 1, 3, 3])

    def test_merge_with_a_locked_class(self):
        flag(self.s, self.p, 0, 8, merge=True)
        self.write(0, 1)
        write(self.s, self.p, 8, 5)
        self.lock(2, 0)
        self.read(1)
        before = distances(self.s)
        self.assertEqual(merge(self.s), 1)
        self.assertEqual((self.row(), distances(self.s)), ([[2], [0, 1]], before))
        self.read(1, 2)
        self.assertEqual(self.row(), [[2], [0, 1]])
        self.unlock(0)
        self.read(2)
        self.assertEqual(self.row(), [[2], [0, 1]])
        self.unlock(2)
        self.read(1)
        self.assertEqual(self.row(), [[0, 1], [2]])

    def test_merge_of_two_locked_classes(self):
        flag(self.s, self.p, 0, 8, merge=True)
        self.write(0, 1, 3)
        write(self.s, self.p, 8, 5)
        self.lock(0, 2, 1)
        self.assertEqual(merge(self.s), 2)
        self.assertEqual(self.row(), [[0, 1, 3], [2]])
        self.write(4)
        self.assertEqual(self.row(), [[0, 1, 3], [2], [4]])
        self.unlock(0)
        self.assertEqual(self.row(), [[0, 1, 3], [2], [4]])
        self.unlock(1)
        self.assertEqual(self.row(), [[2], [0, 1, 3], [4]])

    def test_holes_behind_locked_items(self):
        self.lock(0, 1)
        self.write(2, 3, 4)
        drop(self.s, self.p, 3, 1)
        self.assertEqual(self.row(), [[0], [1], [4], None, [2]])
        self.lock(2)
        self.assertEqual(self.row(), [[0], [1], [2], [4]])

    def test_drop_cache_leaves_locked_items(self):
        self.lock(8)
        self.read(9)
        drop_cache(self.s)
        self.assertEqual(self.row(), [[8]])


class LockedMemory(Case):
    """Locked items cannot leave the memory (8.2)."""

    def test_they_stay(self):
        self.make(frames=3)
        self.lock(0, 1)
        self.write(2, 3, 4)
        self.assertEqual(self.present(), [0, 1, 4])
        self.read(2, 9)
        self.assertEqual(self.present(), [0, 1, 9])
        self.unlock(0)
        self.read(2)
        self.assertEqual(self.present(), [0, 1, 2])
        self.read(3)
        self.assertEqual(self.present(), [1, 2, 3])

    def test_a_locked_class_comes_into_memory(self):
        self.make(frames=2)
        self.write(0, 1, 2)
        self.assertEqual(self.present(), [1, 2])
        self.lock(0)
        self.assertEqual((self.present(), counts(self.s)["faults"]), ([0, 2], 1))

    def test_a_file_page_beside_the_cache(self):
        self.make(frames=2, slots=0)
        self.lock(0)
        self.write(1)
        write_page(self.s, "f", 0, ONES)
        self.assertEqual((self.present(), disk(self.s, "f")[0]), ([0, 1], ONES))
        drop(self.s, self.p, 1, 1)
        read_page(self.s, "f", 0)
        self.assertEqual(self.present(), [0, 8])
        self.lock(0)
        refuses(self, self.s, "NoLock", None, lock, self.p, 8, 1)
        self.unlock(0)
        self.lock(8)
        self.assertEqual((self.present(), self.row()), ([0, 8], [[8], FILE_0, [0]]))

    def test_a_copy_of_a_locked_page(self):
        self.make(frames=2)
        self.lock(0)
        c = fork(self.s, self.p)
        self.write(1)
        self.write(0)
        self.assertEqual([in_memory(self.s, place) for place in ((self.p, 0), (c, 0), (self.p, 1))], [True, True, False])
        self.read(1)
        self.assertEqual([in_memory(self.s, place) for place in ((self.p, 0), (c, 0), (self.p, 1))], [True, False, True])

    def test_with_slots_all_taken(self):
        self.make(frames=3, slots=2)
        self.lock(0, 1)
        self.write(2, 3, 4)
        for number in (2, 3, 4, 3, 2):
            self.read(number)
            self.assertEqual(self.present(), [0, 1, number])
        self.unlock(0)
        self.read(3)
        self.assertEqual(self.present(), [0, 1, 3])
        self.read(2)
        self.assertEqual(self.present(), [1, 2, 3])
        self.read(0, 4)
        self.assertEqual(self.present(), [0, 1, 4])

    def test_merge_keeps_it_in_memory(self):
        self.make(frames=2)
        flag(self.s, self.p, 0, 8, merge=True)
        self.write(0, 1)
        self.lock(0)
        self.write(2, 3)
        self.assertEqual(merge(self.s), 3)
        self.assertEqual(self.present(), [0, 1, 2, 3])
        self.write(8)
        self.read(9, 10)
        self.assertEqual(self.present(), [0, 1, 2, 3, 10])


class Histories(Case):
    """The numbers of frames with locks (7.3, 7.4)."""

    def test_numbers_that_are_refused(self):
        self.lock(0, 1)
        lock(self.s, self.p, 0, 3)
        self.unlock(0, 1, 2)
        create(self.s, "g", 0)
        for frames in (1, 2, 3):
            for question in (faults, swap_outs, write_backs, least_slots, best_faults):
                refuses(self, self.s, "NoPages", "frames", question, frames)
            refuses(self, self.s, "NoPages", "frames", disk_if, frames, "g")
        for question in (faults, swap_outs, write_backs, least_slots, best_faults):
            self.assertEqual((question(self.s, 4), question(self.s, 999)), (0, 0))
        self.assertEqual((least_frames(self.s, 0), least_frames(self.s, 99), disk_if(self.s, 4, "g")), (4, 4, []))

    def test_pages_count_and_not_items(self):
        self.write(0)
        c = fork(self.s, self.p)
        self.lock(0)
        lock(self.s, c, 0, 1)
        leave(self.s, c)
        refuses(self, self.s, "NoPages", "frames", faults, 2)
        self.assertEqual(faults(self.s, 3), 0)

    def test_a_refused_lock_does_not_count(self):
        self.make(frames=4)
        refuses(self, self.s, "NoLock", None, lock, self.p, 0, 4)
        self.lock(0)
        refuses(self, self.s, "NoPages", "frames", faults, 1)
        self.assertEqual(faults(self.s, 2), 0)

    def test_more_locks_than_999(self):
        self.make()
        self.p = 2
        for _ in range(2):
            p = spawn(self.s)
            map_pages(self.s, p, 512)
            lock(self.s, p, 0, 512)
        refuses(self, self.s, "NoPages", "frames", faults, 999)
        self.assertEqual((least_frames(self.s, 0), fits(self.s, [False] * 1024)), (1025, (1025, None)))

    def test_faults(self):
        self.lock(0)
        self.write(1, 2, 3)
        self.read(0, 1, 2, 0, 3)
        self.assertEqual(distances(self.s), [None] * 4 + [1, 4, 4, 1, 4])
        self.assertEqual([faults(self.s, frames) for frames in (2, 3, 4)], [3, 3, 0])
        self.assertEqual([swap_outs(self.s, frames) for frames in (2, 3, 4)], [5, 4, 0])
        self.assertEqual([least_slots(self.s, frames) for frames in (2, 3, 4)], [2, 1, 0])

    def test_best_faults(self):
        self.lock(0)
        self.write(1, 2)
        self.read(1, 2, 1, 2)
        self.assertEqual([best_faults(self.s, frames) for frames in (2, 3)], [4, 0])
        self.unlock(0)
        self.read(1, 2, 1, 2)
        self.assertEqual([best_faults(self.s, frames) for frames in (2, 3)], [5, 0])
        self.read(0)
        self.assertEqual([best_faults(self.s, frames) for frames in (2, 3)], [6, 0])

    def test_best_faults_of_a_copy(self):
        """The old class cannot leave for the new one."""
        self.lock(0)
        c = fork(self.s, self.p)
        self.write(1, 0)
        self.read(1)
        self.assertEqual(distances(self.s), [None, None, 1, None, 3])
        self.assertEqual([best_faults(self.s, frames) for frames in (2, 3)], [1, 0])
        read(self.s, c, 0)
        self.assertEqual([best_faults(self.s, frames) for frames in (2, 3)], [2, 0])

    def test_fits(self):
        self.lock(0, 1)
        self.write(2, 3)
        self.read(2)
        self.assertEqual(distances(self.s)[-1], 4)
        self.assertEqual([fits(self.s, [False] * 4 + [fault]) for fault in (False, True)], [(4, None), (3, 3)])
        self.read(0)
        self.assertEqual(fits(self.s, [False] * 4 + [True, False]), (3, 3))
        self.assertIsNone(fits(self.s, [False] * 4 + [True, True]))
        lock(self.s, self.p, 0, 3)
        told = [distance is not None and distance > 3 for distance in distances(self.s)]
        self.assertIsNone(fits(self.s, told))

    def test_the_example(self):
        s = System()
        p = spawn(s)
        map_pages(s, p, 3)
        for number in range(3):
            write(s, p, 4 * number, 1)
        lock(s, p, 0, 1)
        read(s, p, 4)
        self.assertEqual([position(s, (p, number)) for number in range(3)], [1, 2, 3])


if __name__ == "__main__":
    unittest.main()
