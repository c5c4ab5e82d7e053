"""Merging of private classes with equal contents (4.1), and what comes behind it."""

import unittest

from pageclass.access import drop, read, write
from pageclass.files import create, write_page
from pageclass.merging import merge
from pageclass.sharing import count, next_write, same, users, writes_of
from pageclass.spaces import flag, map_pages, protect, regions, unmap
from pageclass.systems import System, fork, leave, now, spawn
from support import cells, kept, refuses, touched


class Case(unittest.TestCase):

    def setUp(self):
        self.s = System()
        self.p = spawn(self.s)

    def pages(self, *values, merging=True):
        """Map pages, of which each shows a value in its first cell."""
        at = map_pages(self.s, self.p, len(values))
        flag(self.s, self.p, at, len(values), merge=merging)
        for number, value in enumerate(values, at):
            write(self.s, self.p, 4 * number, value)
        return at

    def merges(self, gone):
        before = kept(self.s)
        told = merge(self.s)
        self.assertEqual((type(told), told, kept(self.s)), (int, gone, before - gone))

    def same(self, one, other):
        return same(self.s, (self.p, one), (self.p, other))


class Merging(Case):

    def test_of_nothing(self):
        self.merges(0)
        map_pages(self.s, self.p, 3)
        flag(self.s, self.p, 0, 3, merge=True)
        self.merges(0)
        self.assertEqual(now(self.s), 5)
        self.pages(5)
        self.merges(0)
        self.merges(0)

    def test_equal_contents(self):
        self.pages(5, 6, 5, 5, 6, 7)
        self.merges(3)
        self.assertTrue(self.same(0, 2) and self.same(2, 3) and self.same(1, 4))
        self.assertFalse(self.same(0, 1) or self.same(0, 5) or self.same(1, 5))
        self.assertEqual([read(self.s, self.p, 4 * k) for k in range(6)], [5, 6, 5, 5, 6, 7])
        self.merges(0)

    def test_all_cells_count(self):
        self.pages(5, 5, 5, 5, 5)
        for number in range(1, 4):
            write(self.s, self.p, 4 * number + number, 1)
        self.merges(1)
        self.assertTrue(self.same(0, 4))

    def test_zeros_that_were_written(self):
        self.pages(0, 0)
        map_pages(self.s, self.p, 1)
        flag(self.s, self.p, 2, 1, merge=True)
        self.merges(1)
        self.assertEqual((count(self.s), users(self.s, (self.p, 2))), ((1, 0, 0), []))

    def test_only_flagged_classes(self):
        self.pages(5, 5, merging=False)
        self.merges(0)
        flag(self.s, self.p, 0, 1, merge=True)
        self.merges(0)
        flag(self.s, self.p, 1, 1, merge=True)
        self.merges(1)

    def test_a_flag_that_was_cleared(self):
        self.pages(5, 5)
        flag(self.s, self.p, 0, 1, merge=False)
        self.merges(0)

    def test_one_holder_with_the_flag_is_enough(self):
        self.pages(5, 5, merging=False)
        c = fork(self.s, self.p)
        flag(self.s, self.p, 0, 1, merge=True)
        flag(self.s, c, 1, 1, merge=True)
        self.merges(1)
        self.assertEqual(users(self.s, (self.p, 0)), [(1, 0), (1, 1), (2, 0), (2, 1)])
        self.assertEqual([row[6] for row in regions(self.s, self.p)], [("merge",), ()])

    def test_the_rights_mean_nothing(self):
        self.pages(5, 5, 5)
        protect(self.s, self.p, 0, 1, "none")
        protect(self.s, self.p, 1, 1, "r")
        self.merges(2)

    def test_over_processes(self):
        self.pages(5, 6)
        c = fork(self.s, self.p)
        write(self.s, c, 0, 6)
        write(self.s, c, 4, 5)
        self.assertEqual(count(self.s), (4, 0, 0))
        self.merges(2)
        self.assertEqual(users(self.s, (self.p, 0)), [(1, 0), (2, 1)])
        self.assertEqual(users(self.s, (c, 0)), [(1, 1), (2, 0)])

    def test_objects_and_files_are_left_alone(self):
        create(self.s, "f", 2)
        map_pages(self.s, self.p, 2, shared=True)
        map_pages(self.s, self.p, 2, shared=True, source=("file", "f"))
        map_pages(self.s, self.p, 2, source=("file", "f"))
        flag(self.s, self.p, 0, 6, merge=True)
        for number in range(4):
            write(self.s, self.p, 4 * number, 5)
        self.pages(5)
        self.merges(0)
        self.assertEqual(count(self.s), (1, 2, 2))
        write(self.s, self.p, 16, 5)
        self.merges(1)
        self.assertTrue(self.same(4, 6))

    def test_a_page_past_the_end_that_holds_a_class(self):
        create(self.s, "f", 1)
        map_pages(self.s, self.p, 1, source=("file", "f"))
        flag(self.s, self.p, 0, 1, merge=True)
        write(self.s, self.p, 0, 5)
        self.pages(5)
        self.merges(1)
        self.assertTrue(self.same(0, 1))

    def test_regions_stay(self):
        self.pages(5, 5, 6)
        before = regions(self.s, self.p)
        merge(self.s)
        self.assertEqual(regions(self.s, self.p), before)

    def test_it_touches_nothing(self):
        self.pages(5, 5)
        before = touched(self.s)
        merge(self.s)
        self.assertEqual(touched(self.s), before)

    def test_hundreds(self):
        self.pages(*[k // 2 for k in range(512)])
        fork(self.s, self.p)
        self.merges(256)
        self.assertEqual(len(users(self.s, (self.p, 511))), 4)

    def test_each_has_a_number(self):
        self.pages(5, 5)
        before = now(self.s)
        merge(self.s)
        merge(self.s)
        self.assertEqual(now(self.s), before + 2)


class Behind(Case):
    """Reads and writes behind a merge are as without it (0.2)."""

    def test_a_write_copies(self):
        self.pages(5, 5, 5)
        merge(self.s)
        self.assertEqual([next_write(self.s, (self.p, k)) for k in range(3)], ["copy"] * 3)
        self.assertEqual(writes_of(self.s, [(self.p, k) for k in range(3)]), (0, 2, 0))
        write(self.s, self.p, 4, 9)
        self.assertEqual([cells(self.s, self.p, k)[0] for k in range(3)], [5, 9, 5])
        write(self.s, self.p, 0, 8)
        self.assertEqual(next_write(self.s, (self.p, 2)), "place")
        write(self.s, self.p, 8, 7)
        self.assertEqual([read(self.s, self.p, 4 * k) for k in range(3)], [8, 9, 7])
        self.assertEqual(count(self.s), (3, 0, 0))

    def test_a_child(self):
        self.pages(5, 5)
        merge(self.s)
        c = fork(self.s, self.p)
        write(self.s, c, 0, 1)
        leave(self.s, self.p)
        self.assertEqual([read(self.s, c, 0), read(self.s, c, 4)], [1, 5])
        self.assertEqual(next_write(self.s, (c, 1)), "place")

    def test_holders_that_go(self):
        self.pages(5, 5, 5)
        merge(self.s)
        unmap(self.s, self.p, 0, 1)
        drop(self.s, self.p, 1, 1)
        self.assertEqual([read(self.s, self.p, 4), read(self.s, self.p, 8)], [0, 5])
        self.assertEqual((next_write(self.s, (self.p, 2)), count(self.s)), ("place", (1, 0, 0)))
        unmap(self.s, self.p, 2, 1)
        self.assertEqual(count(self.s), (0, 0, 0))

    def test_merged_again(self):
        self.pages(5, 5)
        merge(self.s)
        write(self.s, self.p, 0, 6)
        self.merges(0)
        write(self.s, self.p, 0, 5)
        self.merges(1)
        self.assertTrue(self.same(0, 1))

    def test_a_file_page_no_longer_follows(self):
        create(self.s, "f", 1)
        map_pages(self.s, self.p, 1, source=("file", "f"))
        flag(self.s, self.p, 0, 1, merge=True)
        write(self.s, self.p, 0, 5)
        self.pages(5)
        merge(self.s)
        write_page(self.s, "f", 0, (9, 9, 9, 9))
        self.assertEqual(read(self.s, self.p, 0), 5)

    def test_room(self):
        self.s = System(frames=1, slots=2)
        self.p = spawn(self.s)
        self.pages(5, 5, 5)
        map_pages(self.s, self.p, 1)
        refuses(self, self.s, "NoRoom", None, write, self.p, 12, 1)
        merge(self.s)
        write(self.s, self.p, 12, 1)
        write(self.s, self.p, 0, 1)
        self.assertEqual([read(self.s, self.p, 4 * k) for k in range(4)], [1, 5, 5, 1])
        refuses(self, self.s, "NoRoom", None, write, self.p, 4, 1)


if __name__ == "__main__":
    unittest.main()
