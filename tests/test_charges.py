"""The charge, its reserve, and the forks that fit (9.1 to 9.4)."""

import unittest

from pageclass import errors
from pageclass.access import drop, need, read, write
from pageclass.charges import charge, forks_that_fit, reserve, reserve_of
from pageclass.exits import exits_for
from pageclass.files import create, truncate
from pageclass.merging import merge
from pageclass.sharing import count
from pageclass.spaces import flag, map_pages, protect, unmap
from pageclass.systems import System, fork, fresh, spawn
from support import kept, refuses_process


class Case(unittest.TestCase):

    def make(self, **named):
        self.s = System(**named)
        self.p = spawn(self.s)
        create(self.s, "f", 2)

    def setUp(self):
        self.make()

    def write(self, process, *numbers):
        for number in numbers:
            write(self.s, process, 4 * number, process)

    def told(self, charged, left):
        self.assertEqual((charge(self.s), reserve(self.s)), (charged, left))


class ChargeAndReserve(Case):

    def test_an_empty_system(self):
        self.told(0, 0)

    def test_untouched_pages(self):
        map_pages(self.s, self.p, 3)
        map_pages(self.s, self.p, 3, rights="r")
        map_pages(self.s, self.p, 3, source=("file", "f"))
        map_pages(self.s, self.p, 3, source=("file", "f"), shared=True)
        self.told(5, 5)
        truncate(self.s, "f", 3)
        self.told(6, 6)
        truncate(self.s, "f", 0)
        self.told(3, 3)

    def test_the_reserve_shrinks_by_writes_that_make_a_class(self):
        map_pages(self.s, self.p, 2)
        self.write(self.p, 0)
        c = fork(self.s, self.p)
        self.told(4, 3)
        self.write(c, 0)
        self.told(4, 2)
        self.write(self.p, 0)
        self.told(4, 2)
        self.write(self.p, 1)
        self.write(c, 1)
        self.told(4, 0)
        self.write(c, 0, 1)
        self.told(4, 0)

    def test_holders_that_cannot_write(self):
        map_pages(self.s, self.p, 1)
        self.write(self.p, 0)
        c, d = fork(self.s, self.p), fork(self.s, self.p)
        protect(self.s, self.p, 0, 1, "r")
        protect(self.s, c, 0, 1, "none")
        self.told(2, 1)
        self.write(d, 0)
        self.told(2, 0)
        protect(self.s, c, 0, 1, "rw")
        self.told(3, 1)

    def test_object_pages(self):
        map_pages(self.s, self.p, 3, shared=True)
        c = fork(self.s, self.p)
        self.told(3, 3)
        self.write(c, 0)
        self.told(3, 2)
        protect(self.s, self.p, 0, 3, "r")
        protect(self.s, c, 0, 3, "none")
        self.told(1, 0)
        unmap(self.s, c, 0, 3)
        self.told(1, 0)
        unmap(self.s, self.p, 0, 1)
        self.told(0, 0)

    def test_reads_and_writes_never_change_it(self):
        map_pages(self.s, self.p, 2)
        map_pages(self.s, self.p, 2, source=("file", "f"))
        map_pages(self.s, self.p, 1, source=("file", "f"), shared=True)
        map_pages(self.s, self.p, 2, shared=True)
        self.write(self.p, 0)
        c = fork(self.s, self.p)
        before = charge(self.s)
        for process in (c, self.p):
            for number in range(7):
                read(self.s, process, 4 * number)
                self.write(process, number)
                self.assertEqual(charge(self.s), before)
        self.told(kept(self.s), 0)

    def test_drop_and_merge(self):
        map_pages(self.s, self.p, 2, rights="rw")
        self.write(self.p, 0, 1)
        self.told(2, 0)
        drop(self.s, self.p, 0, 1)
        self.told(2, 1)
        self.write(self.p, 0)
        flag(self.s, self.p, 0, 2, merge=True)
        merge(self.s)
        self.told(2, 1)
        protect(self.s, self.p, 0, 2, "r")
        self.told(1, 0)

    def test_the_row_of_writes_does_not_matter(self):
        orders = []
        for order in ((1, 2, 3), (2, 3, 1), (3, 1, 2), (3, 2, 1)):
            self.make()
            map_pages(self.s, self.p, 3)
            self.write(self.p, 0, 1)
            fork(self.s, fork(self.s, self.p))
            left = reserve(self.s)
            made = 0
            for process in order:
                for number in (2, 0, 1):
                    before = kept(self.s)
                    self.write(process, number)
                    made += kept(self.s) - before
            orders.append((left, made, reserve(self.s)))
        self.assertEqual(orders, [(7, 7, 0)] * 4)


class ReserveOf(Case):

    def test_an_empty_process(self):
        self.assertEqual(reserve_of(self.s, self.p), (0, 0))

    def test_untouched_pages(self):
        map_pages(self.s, self.p, 2)
        map_pages(self.s, self.p, 3, source=("file", "f"))
        map_pages(self.s, self.p, 2, rights="r")
        map_pages(self.s, self.p, 2, source=("file", "f"), shared=True)
        self.assertEqual(reserve_of(self.s, self.p), (4, 4))

    def test_the_last_holder_writes_in_place(self):
        map_pages(self.s, self.p, 2)
        self.write(self.p, 0)
        c = fork(self.s, self.p)
        for process in (self.p, c):
            self.assertEqual(reserve_of(self.s, process), (1, 2))
        self.write(c, 0)
        for process in (self.p, c):
            self.assertEqual(reserve_of(self.s, process), (1, 1))

    def test_a_holder_that_cannot_write_keeps_the_class(self):
        map_pages(self.s, self.p, 1)
        self.write(self.p, 0)
        c, d = fork(self.s, self.p), fork(self.s, self.p)
        protect(self.s, c, 0, 1, "r")
        self.assertEqual([reserve_of(self.s, process) for process in (self.p, c, d)], [(1, 1), (0, 0), (1, 1)])

    def test_several_pages_of_one_class(self):
        map_pages(self.s, self.p, 3)
        self.write(self.p, 0, 1, 2)
        flag(self.s, self.p, 0, 3, merge=True)
        merge(self.s)
        self.assertEqual(reserve_of(self.s, self.p), (2, 2))
        c = fork(self.s, self.p)
        self.assertEqual([reserve_of(self.s, process) for process in (self.p, c)], [(2, 3), (2, 3)])
        protect(self.s, c, 0, 1, "r")
        self.assertEqual([reserve_of(self.s, process) for process in (self.p, c)], [(3, 3), (2, 2)])
        protect(self.s, self.p, 0, 3, "none")
        self.assertEqual([reserve_of(self.s, process) for process in (self.p, c)], [(0, 0), (2, 2)])

    def test_unwritten_object_pages(self):
        map_pages(self.s, self.p, 2, shared=True)
        c = fork(self.s, self.p)
        protect(self.s, c, 1, 1, "r")
        self.assertEqual([reserve_of(self.s, process) for process in (self.p, c)], [(1, 2), (0, 1)])
        self.write(c, 0)
        self.assertEqual([reserve_of(self.s, process) for process in (self.p, c)], [(1, 1), (0, 0)])

    def test_an_object_page_that_is_mapped_twice(self):
        map_pages(self.s, self.p, 2, shared=True)
        map_pages(self.s, self.p, 2, shared=True, source=("object", 1))
        map_pages(self.s, self.p, 2, shared=True)
        self.assertEqual(reserve_of(self.s, self.p), (4, 4))
        self.assertEqual(charge(self.s), 4)

    def test_past_the_end(self):
        map_pages(self.s, self.p, 2, source=("file", "f"))
        self.write(self.p, 1)
        fork(self.s, self.p)
        truncate(self.s, "f", 0)
        self.assertEqual(reserve_of(self.s, self.p), (0, 1))

    def test_other_processes_that_share_nothing(self):
        map_pages(self.s, self.p, 2)
        other = spawn(self.s)
        map_pages(self.s, other, 5)
        self.assertEqual([reserve_of(self.s, process) for process in (self.p, other)], [(2, 2), (5, 5)])

    def test_twelve_processes(self):
        map_pages(self.s, self.p, 3)
        self.write(self.p, 0, 1, 2)
        for _ in range(11):
            fork(self.s, self.p)
        self.assertEqual((charge(self.s), reserve(self.s)), (36, 33))
        for process in range(1, 13):
            self.assertEqual(reserve_of(self.s, process), (0, 3))
        for process in range(2, 13):
            self.write(process, 1)
        self.assertEqual([reserve_of(self.s, process) for process in (1, 2)], [(0, 2), (0, 2)])

    def test_wrong_processes(self):
        refuses_process(self, self.s, reserve_of)


class ForksThatFit(Case):

    def forks(self):
        """How many forks really succeed, up to the bound of processes."""
        many = 0
        while many < 11:
            try:
                fork(self.s, self.p)
            except errors.NoCharge:
                break
            many += 1
        return many

    def test_they_really_fit(self):
        for frames, slots, pages in ((1, 0, 1), (1, 1, 1), (4, 5, 2), (4, 5, 3), (4, 5, 4), (10, 0, 1), (3, 7, 10)):
            self.make(frames=frames, slots=slots, strict=True)
            map_pages(self.s, self.p, pages)
            self.write(self.p, 0)
            told = forks_that_fit(self.s, self.p)
            self.assertEqual(told, (frames + slots) // pages - 1)
            self.assertEqual(self.forks(), told)

    def test_beyond_twelve_processes(self):
        self.make(frames=64, slots=256, strict=True)
        map_pages(self.s, self.p, 1)
        self.assertEqual(forks_that_fit(self.s, self.p), 319)

    def test_without_limits(self):
        for named in ({}, {"frames": 4}, {"slots": 4}):
            self.make(**named)
            map_pages(self.s, self.p, 1)
            self.assertIsNone(forks_that_fit(self.s, self.p))

    def test_forks_that_do_not_raise_the_charge(self):
        self.make(frames=1, slots=0)
        self.assertIsNone(forks_that_fit(self.s, self.p))
        map_pages(self.s, self.p, 2, rights="r")
        map_pages(self.s, self.p, 2, shared=True)
        map_pages(self.s, self.p, 1, source=("file", "f"), shared=True)
        map_pages(self.s, self.p, 1, source=("file", "f"), index=2)
        self.assertIsNone(forks_that_fit(self.s, self.p))
        map_pages(self.s, self.p, 1)
        flag(self.s, self.p, 6, 1, stay=True)
        self.assertIsNone(forks_that_fit(self.s, self.p))

    def test_pages_that_cannot_be_written(self):
        self.make(frames=4, slots=4)
        map_pages(self.s, self.p, 2)
        self.write(self.p, 0, 1)
        protect(self.s, self.p, 0, 1, "r")
        self.assertEqual(forks_that_fit(self.s, self.p), 6)
        protect(self.s, self.p, 1, 1, "none")
        self.assertIsNone(forks_that_fit(self.s, self.p))

    def test_wipe(self):
        self.make(frames=4, slots=4)
        map_pages(self.s, self.p, 2, source=("file", "f"))
        self.write(self.p, 0, 1)
        truncate(self.s, "f", 1)
        self.assertEqual(forks_that_fit(self.s, self.p), 3)
        flag(self.s, self.p, 0, 2, wipe=True)
        self.assertEqual(forks_that_fit(self.s, self.p), 6)

    def test_a_system_that_is_not_strict(self):
        self.make(frames=2, slots=1)
        map_pages(self.s, self.p, 2)
        self.assertEqual(forks_that_fit(self.s, self.p), 0)
        fork(self.s, self.p)
        fork(self.s, self.p)
        self.assertEqual((charge(self.s), forks_that_fit(self.s, self.p)), (6, 0))

    def test_wrong_processes(self):
        refuses_process(self, self.s, forks_that_fit)
        self.make(frames=1, slots=1)
        refuses_process(self, self.s, forks_that_fit)


class Strict(Case):
    """No write lacks room, no refusal is needless (0.2, 9.2, 9.3)."""

    def test_every_write_succeeds(self):
        self.make(frames=2, slots=6, strict=True)
        map_pages(self.s, self.p, 1)
        map_pages(self.s, self.p, 1, source=("file", "f"))
        map_pages(self.s, self.p, 1, source=("file", "f"), shared=True)
        map_pages(self.s, self.p, 1, shared=True)
        self.write(self.p, 0)
        c, d = fork(self.s, self.p), fork(self.s, self.p)
        self.assertEqual(charge(self.s), 7)
        for process in (d, self.p, c):
            for number in range(4):
                self.write(process, number)
            need(self.s, process, 0, 4)
        self.assertEqual((kept(self.s), reserve(self.s)), (7, 0))

    def test_a_refused_step_would_let_a_write_lack_room(self):
        for slots in (0, 1, 2, 3):
            for strict in (True, False):
                self.make(frames=2, slots=slots, strict=strict)
                map_pages(self.s, self.p, 2)
                made = 2
                try:
                    c = fork(self.s, self.p)
                    self.assertTrue(not strict or slots >= 2)
                    for process in (c, self.p):
                        self.write(process, 0, 1)
                    made = 4
                except (errors.NoCharge, errors.NoRoom) as error:
                    self.assertEqual((error.__class__.__name__, slots < 2), ("NoCharge" if strict else "NoRoom", True))
                self.assertEqual(made == 4, slots >= 2)

    def test_the_charge_may_equal_frames_and_slots(self):
        for frames, slots in ((1, 0), (64, 256), (3, 0), (1, 7)):
            self.make(frames=frames, slots=slots, strict=True)
            map_pages(self.s, self.p, frames + slots)
            with self.assertRaises(errors.NoCharge):
                map_pages(self.s, self.p, 1)
            self.write(self.p, *range(frames + slots))
            self.told(frames + slots, 0)


class ExitsFor(Case):

    def test_by_the_charge(self):
        map_pages(self.s, self.p, 2)
        self.write(self.p, 0)
        c = fork(self.s, self.p)
        d = spawn(self.s)
        map_pages(self.s, d, 1, shared=True)
        self.assertEqual([exits_for(self.s, many) for many in range(7)],
                         [(), (self.p,), (self.p,), (self.p, c), (self.p, c), (self.p, c, d), None])


class Questions(Case):

    def test_two_systems(self):
        other = System(frames=4, slots=4)
        q = spawn(other)
        map_pages(self.s, self.p, 5)
        self.write(self.p, 0)
        self.assertEqual((charge(other), reserve(other), reserve_of(other, q), count(other)), (0, 0, (0, 0), (0, 0, 0)))
        fresh(self.s, self.p)
        self.told(0, 0)


if __name__ == "__main__":
    unittest.main()
