"""Room for classes (8.2, 8.3), and the charge in strict mode (9.1 to 9.3)."""

import unittest

from pageclass.access import drop, need, read, write
from pageclass.charges import charge
from pageclass.files import truncate
from pageclass.locks import lock
from pageclass.spaces import flag, map_pages, move, protect, regions, unmap
from pageclass.systems import System, fork, fresh, leave, now, spawn
from support import give_file, kept, refuses

ZEROS = (0, 0, 0, 0)


class Room(unittest.TestCase):

    def setUp(self):
        self.s = System(frames=2, slots=1)
        self.p = spawn(self.s)

    def full(self):
        """Three classes: two private ones and an object page. Pages 2 and 4 show zeros."""
        map_pages(self.s, self.p, 3)
        map_pages(self.s, self.p, 2, shared=True)
        for address in (0, 4, 12):
            write(self.s, self.p, address, 1)

    def test_zeros(self):
        self.full()
        refuses(self, self.s, "NoRoom", None, write, self.p, 8, 1)
        refuses(self, self.s, "NoRoom", None, write, self.p, 16, 1)

    def test_in_place(self):
        self.full()
        for address in (0, 1, 7, 12, 15):
            write(self.s, self.p, address, 2)

    def test_a_copy(self):
        self.full()
        c = fork(self.s, self.p)
        for process in (self.p, c):
            refuses(self, self.s, "NoRoom", None, write, process, 0, 2)
        write(self.s, c, 12, 2)
        drop(self.s, c, 0, 1)
        write(self.s, self.p, 0, 2)
        refuses(self, self.s, "NoRoom", None, write, c, 0, 2)

    def test_a_file_page(self):
        give_file(self.s, "f", [ZEROS])
        map_pages(self.s, self.p, 1, source=("file", "f"), at=10)
        map_pages(self.s, self.p, 1, source=("file", "f"), shared=True, at=11)
        self.full()
        refuses(self, self.s, "NoRoom", None, write, self.p, 40, 2)
        write(self.s, self.p, 44, 2)
        self.assertEqual(read(self.s, self.p, 40), 2)

    def test_reads_and_need_never_lack_room(self):
        self.full()
        need(self.s, self.p, 0, 5)
        self.assertEqual([read(self.s, self.p, 4 * k) for k in range(5)], [1, 1, 0, 1, 0])

    def test_each_class_that_goes_makes_room(self):
        self.full()
        for free in (lambda: unmap(self.s, self.p, 0, 1), lambda: drop(self.s, self.p, 1, 1),
                     lambda: move(self.s, self.p, 4, 1, 3)):
            free()
            map_pages(self.s, self.p, 1, at=100 + now(self.s))
            write(self.s, self.p, 4 * regions(self.s, self.p)[-1][0], 1)
            refuses(self, self.s, "NoRoom", None, write, self.p, 8, 1)

    def test_other_errors_come_first(self):
        self.full()
        refuses(self, self.s, "NoPages", "address", write, self.p, -1, 256)
        refuses(self, self.s, "NoPages", "value", write, self.p, 8, 256)
        refuses(self, self.s, "NotMapped", 5, write, self.p, 20, 1)
        protect(self.s, self.p, 2, 1, "r")
        refuses(self, self.s, "NoRight", 2, write, self.p, 8, 1)
        give_file(self.s, "f", [])
        map_pages(self.s, self.p, 1, source=("file", "f"), at=9)
        refuses(self, self.s, "PastEnd", 9, write, self.p, 36, 1)

    def test_every_number_of_frames_and_slots(self):
        for frames, slots in ((1, 0), (1, 1), (2, 0), (3, 4), (64, 0), (64, 256)):
            s = System(frames=frames, slots=slots)
            p = spawn(s)
            map_pages(s, p, 512)
            for number in range(frames + slots):
                write(s, p, 4 * number, 1)
            refuses(self, s, "NoRoom", None, write, p, 4 * (frames + slots), 1)

    def test_without_a_limit(self):
        for named in ({}, {"frames": 1}, {"slots": 0}):
            s = System(**named)
            p = spawn(s)
            map_pages(s, p, 512)
            for number in range(512):
                write(s, p, 4 * number + 3, 1)
            self.assertEqual(kept(s), 512)

    def test_without_strict_mode_nothing_is_charged(self):
        map_pages(self.s, self.p, 512)
        fork(self.s, self.p)


class Charge(unittest.TestCase):
    """What counts towards the charge (9.1)."""

    def setUp(self):
        self.s = System()
        self.p = spawn(self.s)

    def test_untouched_pages(self):
        map_pages(self.s, self.p, 3)
        map_pages(self.s, self.p, 2, rights="r")
        map_pages(self.s, self.p, 2, rights="none")
        self.assertEqual(charge(self.s), 3)

    def test_untouched_pages_of_a_file(self):
        give_file(self.s, "f", [ZEROS] * 2)
        map_pages(self.s, self.p, 4, source=("file", "f"))
        map_pages(self.s, self.p, 4, source=("file", "f"), rights="r")
        map_pages(self.s, self.p, 4, source=("file", "f"), shared=True)
        self.assertEqual(charge(self.s), 2)

    def test_holders(self):
        map_pages(self.s, self.p, 1)
        write(self.s, self.p, 0, 1)
        self.assertEqual(charge(self.s), 1)
        c, d, e = [fork(self.s, self.p) for _ in range(3)]
        self.assertEqual(charge(self.s), 4)
        protect(self.s, c, 0, 1, "r")
        self.assertEqual(charge(self.s), 4)
        protect(self.s, d, 0, 1, "none")
        self.assertEqual(charge(self.s), 3)
        protect(self.s, self.p, 0, 1, "r")
        protect(self.s, e, 0, 1, "r")
        self.assertEqual(charge(self.s), 1)

    def test_a_holder_past_the_end_of_its_file(self):
        give_file(self.s, "f", [ZEROS])
        map_pages(self.s, self.p, 1, source=("file", "f"))
        write(self.s, self.p, 0, 1)
        truncate(self.s, "f", 0)
        self.assertEqual(charge(self.s), 1)

    def test_object_pages(self):
        map_pages(self.s, self.p, 3, shared=True)
        fork(self.s, self.p)
        self.assertEqual(charge(self.s), 3)
        write(self.s, self.p, 0, 1)
        self.assertEqual(charge(self.s), 3)
        for process in (1, 2):
            protect(self.s, process, 0, 2, "r")
        self.assertEqual(charge(self.s), 2)
        protect(self.s, 2, 1, 1, "rw")
        self.assertEqual(charge(self.s), 3)

    def test_two_objects(self):
        map_pages(self.s, self.p, 1, shared=True)
        map_pages(self.s, self.p, 1, shared=True)
        self.assertEqual(charge(self.s), 2)

    def test_reads_and_writes_do_not_change_it(self):
        give_file(self.s, "f", [ZEROS])
        map_pages(self.s, self.p, 2)
        map_pages(self.s, self.p, 1, shared=True)
        map_pages(self.s, self.p, 2, source=("file", "f"))
        map_pages(self.s, self.p, 1, source=("file", "f"), shared=True)
        write(self.s, self.p, 0, 1)
        fork(self.s, self.p)
        before = charge(self.s)
        for process in (1, 2):
            for page in (0, 1, 2, 3, 5):
                write(self.s, process, 4 * page, 2)
                read(self.s, process, 4 * page)
                self.assertEqual(charge(self.s), before)
        self.assertEqual(kept(self.s), before)


class Strict(unittest.TestCase):

    def setUp(self):
        self.s = System(frames=2, slots=2, strict=True)
        self.p = spawn(self.s)

    def no_charge(self, step, *args, **named):
        refuses(self, self.s, "NoCharge", None, step, *args, **named)

    def test_map_pages(self):
        self.no_charge(map_pages, self.p, 5)
        map_pages(self.s, self.p, 3)
        self.no_charge(map_pages, self.p, 2)
        self.no_charge(map_pages, self.p, 2, shared=True)
        map_pages(self.s, self.p, 100, rights="r")
        map_pages(self.s, self.p, 100, rights="none", shared=True)
        map_pages(self.s, self.p, 1, shared=True)
        self.no_charge(map_pages, self.p, 1)
        self.no_charge(map_pages, self.p, 512, at=0)
        map_pages(self.s, self.p, 1, shared=True, source=("object", 2))
        self.no_charge(map_pages, self.p, 1, shared=True, source=("object", 2), index=1)

    def test_map_pages_in_place_of_others(self):
        map_pages(self.s, self.p, 4)
        map_pages(self.s, self.p, 4, at=0)
        map_pages(self.s, self.p, 4, at=0, shared=True)
        self.no_charge(map_pages, self.p, 4, at=1)
        map_pages(self.s, self.p, 4, at=0)

    def test_map_pages_of_a_file(self):
        give_file(self.s, "f", [ZEROS] * 5)
        self.no_charge(map_pages, self.p, 5, source=("file", "f"))
        map_pages(self.s, self.p, 20, source=("file", "f"), index=1)
        map_pages(self.s, self.p, 5, source=("file", "f"), shared=True)
        self.no_charge(map_pages, self.p, 1)

    def test_an_object_page_counts_once(self):
        map_pages(self.s, self.p, 4, shared=True)
        for _ in range(5):
            map_pages(self.s, self.p, 4, shared=True, source=("object", 1))
        fork(self.s, self.p)

    def test_a_written_object_page_that_is_replaced(self):
        map_pages(self.s, self.p, 4, shared=True)
        for address in (0, 4, 8, 12):
            write(self.s, self.p, address, 1)
        protect(self.s, self.p, 0, 4, "r")
        self.no_charge(map_pages, self.p, 1)
        map_pages(self.s, self.p, 3, at=0, source=("object", 1), shared=True, rights="r", index=1)
        map_pages(self.s, self.p, 1)
        self.no_charge(map_pages, self.p, 1)

    def test_protect(self):
        map_pages(self.s, self.p, 5, rights="r")
        self.no_charge(protect, self.p, 0, 5, "rw")
        protect(self.s, self.p, 0, 4, "rw")
        self.no_charge(protect, self.p, 4, 1, "rw")
        protect(self.s, self.p, 4, 1, "none")
        protect(self.s, self.p, 0, 1, "none")
        protect(self.s, self.p, 4, 1, "rw")

    def test_protect_of_holders(self):
        map_pages(self.s, self.p, 1)
        write(self.s, self.p, 0, 1)
        protect(self.s, self.p, 0, 1, "r")
        children = [fork(self.s, self.p) for _ in range(4)]
        for child in children[:3]:
            protect(self.s, child, 0, 1, "rw")
        self.no_charge(protect, children[3], 0, 1, "rw")
        protect(self.s, children[0], 0, 1, "r")
        protect(self.s, children[3], 0, 1, "rw")

    def test_fork(self):
        map_pages(self.s, self.p, 2)
        write(self.s, self.p, 0, 1)
        c = fork(self.s, self.p)
        self.no_charge(fork, self.p)
        self.no_charge(fork, c)
        flag(self.s, c, 0, 2, stay=True)
        self.assertEqual(fork(self.s, c), 3)
        leave(self.s, c)
        self.assertEqual(fork(self.s, self.p), 4)

    def test_fork_with_wipe_and_read_only_pages(self):
        map_pages(self.s, self.p, 2)
        write(self.s, self.p, 0, 1)
        flag(self.s, self.p, 0, 1, wipe=True)
        fork(self.s, self.p)
        self.no_charge(fork, self.p)
        fresh(self.s, 2)
        protect(self.s, self.p, 0, 2, "r")
        for _ in range(8):
            fork(self.s, self.p)

    def test_other_errors_come_first(self):
        map_pages(self.s, self.p, 4)
        refuses(self, self.s, "NoPages", "at", map_pages, self.p, 5, at=511)
        refuses(self, self.s, "NoProcess", 7, fork, 7)
        map_pages(self.s, self.p, 1, rights="r")
        refuses(self, self.s, "NotMapped", 5, protect, self.p, 4, 2, "rw")

    def test_no_greater_charge_than_before_is_refused_only_above_the_limit(self):
        map_pages(self.s, self.p, 4)
        map_pages(self.s, self.p, 4, rights="r")
        # A system that was over its limit all the same: steps that do not raise the charge succeed.
        self.s.slots = 0
        protect(self.s, self.p, 0, 1, "rw")
        map_pages(self.s, self.p, 4, rights="none")
        map_pages(self.s, self.p, 1, at=3)
        protect(self.s, self.p, 0, 1, "r")
        self.no_charge(protect, self.p, 4, 1, "rw")

    def test_locked_pages_keep_the_order_of_errors(self):
        map_pages(self.s, self.p, 1)
        write(self.s, self.p, 0, 1)
        lock(self.s, self.p, 0, 1)
        refuses(self, self.s, "NoLock", 0, protect, self.p, 0, 1, "r")
        refuses(self, self.s, "NotMapped", 1, protect, self.p, 0, 2, "r")

    def test_no_write_lacks_room(self):
        map_pages(self.s, self.p, 1)
        map_pages(self.s, self.p, 1, shared=True)
        write(self.s, self.p, 0, 1)
        c = fork(self.s, self.p)
        map_pages(self.s, c, 1)
        for process, page in ((c, 0), (c, 1), (c, 2), (self.p, 0), (self.p, 1)):
            write(self.s, process, 4 * page, 2)
        self.assertEqual(kept(self.s), 4)


if __name__ == "__main__":
    unittest.main()
