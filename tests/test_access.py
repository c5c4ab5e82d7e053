"""Contents, what pages show, reads, writes, need and drop (2.1 to 2.5)."""

import unittest

from pageclass.access import drop, need, read, write
from pageclass.files import read_page, truncate
from pageclass.locks import lock
from pageclass.spaces import flag, map_pages, protect, regions, unmap
from pageclass.systems import System, fork, leave, now, spawn
from support import ODD, cells, give_file, kept, refuses, refuses_range, touched

ZEROS = (0, 0, 0, 0)


class Case(unittest.TestCase):

    def setUp(self):
        self.s = System()
        self.p = spawn(self.s)

    def map(self, count, **named):
        return map_pages(self.s, self.p, count, **named)

    def cells(self, *numbers):
        return [cells(self.s, self.p, number) for number in numbers]


class Reading(Case):

    def test_the_cells_of_a_page(self):
        self.map(2)
        for address, value in ((4, 1), (5, 2), (6, 3), (7, 4)):
            self.assertIsNone(write(self.s, self.p, address, value))
        self.assertEqual([read(self.s, self.p, address) for address in range(8)], [0, 0, 0, 0, 1, 2, 3, 4])

    def test_the_bounds(self):
        self.map(512)
        for address in (0, 3, 4, 2044, 2047):
            for value in (255, 1, 0):
                write(self.s, self.p, address, value)
                self.assertEqual(read(self.s, self.p, address), value)
        self.assertEqual(regions(self.s, self.p), [(0, 512, "rw", False, None, None, ())])

    def test_wrong_addresses_and_values(self):
        self.map(512, rights="none")
        for address in ODD + (None, -1, 2048, 10 ** 30, (self.p, 0)):
            refuses(self, self.s, "NoPages", "address", read, self.p, address)
            refuses(self, self.s, "NoPages", "address", write, self.p, address, 0)
            refuses(self, self.s, "NoPages", "address", write, self.p, address, address)
        for value in ODD + (None, -1, 256, 10 ** 30):
            refuses(self, self.s, "NoPages", "value", write, self.p, 0, value)
            unmap(self.s, self.p, 1, 1)
            refuses(self, self.s, "NoPages", "value", write, self.p, 4, value)

    def test_not_mapped(self):
        self.map(1, at=5)
        for address, page in ((0, 0), (19, 4), (24, 6), (2047, 511)):
            refuses(self, self.s, "NotMapped", page, read, self.p, address)
            refuses(self, self.s, "NotMapped", page, write, self.p, address, 0)
        self.assertEqual([read(self.s, self.p, address) for address in (20, 23)], [0, 0])

    def test_rights(self):
        self.map(3)
        write(self.s, self.p, 8, 9)
        protect(self.s, self.p, 1, 1, "r")
        protect(self.s, self.p, 2, 1, "none")
        self.assertEqual(read(self.s, self.p, 4), 0)
        refuses(self, self.s, "NoRight", 1, write, self.p, 7, 0)
        refuses(self, self.s, "NoRight", 2, read, self.p, 8)
        refuses(self, self.s, "NoRight", 2, write, self.p, 11, 0)
        protect(self.s, self.p, 2, 1, "r")
        self.assertEqual(read(self.s, self.p, 8), 9)

    def test_past_the_end(self):
        give_file(self.s, "f", [(1, 2, 3, 4)])
        give_file(self.s, "g", [])
        for shared in (False, True):
            for rights in ("none", "r", "rw"):
                self.map(2, source=("file", "f"), shared=shared, rights=rights, at=0)
                self.map(1, source=("file", "g"), shared=shared, rights=rights, at=2)
                self.map(1, source=("file", "f"), shared=shared, rights=rights, index=511, at=511)
                for page in (1, 2, 511):
                    error = "NoRight" if rights == "none" else "PastEnd"
                    refuses(self, self.s, error, page, read, self.p, 4 * page + 3)
                    error = "PastEnd" if rights == "rw" else "NoRight"
                    refuses(self, self.s, error, page, write, self.p, 4 * page, 0)

    def test_a_page_with_a_class_is_not_past_the_end(self):
        give_file(self.s, "f", [(1, 2, 3, 4)])
        self.map(1, source=("file", "f"))
        write(self.s, self.p, 0, 9)
        truncate(self.s, "f", 0)
        self.assertEqual(read(self.s, self.p, 1), 2)
        write(self.s, self.p, 1, 8)
        self.assertEqual(self.cells(0), [(9, 8, 3, 4)])
        drop(self.s, self.p, 0, 1)
        refuses(self, self.s, "PastEnd", 0, read, self.p, 1)


class Writing(Case):

    def test_an_untouched_page(self):
        self.map(1)
        self.assertEqual(kept(self.s), 0)
        write(self.s, self.p, 2, 5)
        self.assertEqual((self.cells(0), kept(self.s)), ([(0, 0, 5, 0)], 1))

    def test_the_value_that_a_cell_has(self):
        self.map(1)
        write(self.s, self.p, 0, 0)
        self.assertEqual((kept(self.s), touched(self.s)), (1, ["private"]))
        c = fork(self.s, self.p)
        write(self.s, c, 0, 0)
        self.assertEqual(kept(self.s), 2)

    def test_the_only_holder_writes_in_place(self):
        self.map(1)
        write(self.s, self.p, 0, 1)
        held = self.s.tables[self.p][0].held
        write(self.s, self.p, 0, 2)
        self.assertIs(self.s.tables[self.p][0].held, held)

    def test_other_holders_keep_what_they_have(self):
        self.map(1)
        write(self.s, self.p, 0, 1)
        children = [fork(self.s, self.p) for _ in range(3)]
        for number, child in enumerate(children, 2):
            write(self.s, child, 1, number)
            self.assertEqual(kept(self.s), number)
        self.assertEqual([cells(self.s, c, 0) for c in children], [(1, k, 0, 0) for k in (2, 3, 4)])
        write(self.s, self.p, 1, 9)
        self.assertEqual((self.cells(0), kept(self.s)), ([(1, 9, 0, 0)], 4))

    def test_the_last_holder_writes_in_place(self):
        self.map(1)
        write(self.s, self.p, 0, 1)
        for end in (leave, lambda s, c: unmap(s, c, 0, 1), lambda s, c: drop(s, c, 0, 1),
                    lambda s, c: map_pages(s, c, 1, at=0), lambda s, c: write(s, c, 0, 7)):
            c = fork(self.s, self.p)
            held = self.s.tables[self.p][0].held
            end(self.s, c)
            write(self.s, self.p, 0, 2)
            self.assertIs(self.s.tables[self.p][0].held, held)

    def test_a_holder_that_may_not_read_counts(self):
        self.map(1)
        write(self.s, self.p, 0, 1)
        c = fork(self.s, self.p)
        protect(self.s, c, 0, 1, "none")
        write(self.s, self.p, 0, 2)
        protect(self.s, c, 0, 1, "r")
        self.assertEqual(read(self.s, c, 0), 1)

    def test_a_copy_of_a_file_page(self):
        give_file(self.s, "f", [ZEROS, (1, 2, 3, 4)])
        self.map(2, source=("file", "f"))
        c = fork(self.s, self.p)
        write(self.s, self.p, 5, 9)
        self.assertEqual((self.cells(1), cells(self.s, c, 1)), ([(1, 9, 3, 4)], (1, 2, 3, 4)))
        self.assertEqual(read_page(self.s, "f", 1), (1, 2, 3, 4))
        self.assertEqual(kept(self.s), 1)

    def test_an_untouched_page_follows_its_file(self):
        give_file(self.s, "f", [(1, 2, 3, 4)])
        self.map(1, source=("file", "f"))
        self.map(1, source=("file", "f"), shared=True)
        self.map(1, source=("file", "f"))
        write(self.s, self.p, 0, 7)
        write(self.s, self.p, 4, 8)
        self.assertEqual(self.cells(0, 1, 2), [(7, 2, 3, 4), (8, 2, 3, 4), (8, 2, 3, 4)])

    def test_a_shared_page(self):
        self.map(1, shared=True)
        c = fork(self.s, self.p)
        self.assertEqual(kept(self.s), 0)
        write(self.s, c, 3, 5)
        self.assertEqual((self.cells(0), kept(self.s)), ([(0, 0, 0, 5)], 1))
        write(self.s, self.p, 0, 6)
        self.assertEqual((cells(self.s, c, 0), kept(self.s)), ((6, 0, 0, 5), 1))

    def test_each_page_of_an_object_by_itself(self):
        self.map(3, shared=True)
        write(self.s, self.p, 4, 1)
        write(self.s, self.p, 8, 2)
        self.assertEqual(self.cells(0, 1, 2), [ZEROS, (1, 0, 0, 0), (2, 0, 0, 0)])
        self.map(1, shared=True, source=("object", 1), index=1)
        write(self.s, self.p, 13, 3)
        self.assertEqual(self.cells(1, 3), [(1, 3, 0, 0)] * 2)

    def test_an_object_page_mapped_again_shows_zeros(self):
        self.map(2, shared=True)
        write(self.s, self.p, 0, 1)
        unmap(self.s, self.p, 0, 1)
        self.assertEqual(kept(self.s), 0)
        self.map(1, shared=True, source=("object", 1))
        self.assertEqual((self.cells(0), kept(self.s)), ([ZEROS], 0))


class Needing(Case):

    def test_what_is_touched(self):
        give_file(self.s, "f", [ZEROS, ZEROS])
        self.map(2)
        self.map(2, shared=True)
        self.map(3, source=("file", "f"))
        self.map(3, source=("file", "f"), shared=True)
        write(self.s, self.p, 4, 1)
        write(self.s, self.p, 8, 1)
        protect(self.s, self.p, 5, 1, "none")
        protect(self.s, self.p, 8, 1, "r")
        before = len(self.s.history.touches)
        number = now(self.s)
        self.assertIsNone(need(self.s, self.p, 0, 10))
        self.assertEqual(touched(self.s)[before:], ["private", ("object", 1, 0), ("file", "f", 0), ("file", "f", 0),
                                                    ("file", "f", 1)])
        self.assertEqual(now(self.s), number + 1)

    def test_pages_with_rights_none_are_passed_over(self):
        self.map(2)
        write(self.s, self.p, 0, 1)
        write(self.s, self.p, 4, 2)
        protect(self.s, self.p, 0, 1, "none")
        need(self.s, self.p, 0, 2)
        self.assertEqual(self.s.history.touches[2:], [self.s.tables[self.p][1].held])

    def test_a_class_is_touched_for_each_page(self):
        self.map(1)
        write(self.s, self.p, 0, 1)
        need(self.s, self.p, 0, 1)
        need(self.s, self.p, 0, 1)
        self.assertEqual(touched(self.s), ["private"] * 3)

    def test_it_changes_nothing_else(self):
        self.map(512)
        need(self.s, self.p, 0, 512)
        self.assertEqual((kept(self.s), touched(self.s)), (0, []))

    def test_errors(self):
        self.map(1, at=1)
        refuses_range(self, self.s, self.p, need)
        write(self.s, self.p, 4, 1)
        refuses(self, self.s, "NotMapped", 0, need, self.p, 0, 2)
        refuses(self, self.s, "NotMapped", 2, need, self.p, 1, 511)


class Dropping(Case):

    def test_private_pages_become_untouched(self):
        give_file(self.s, "f", [(1, 2, 3, 4)])
        self.map(2)
        self.map(1, source=("file", "f"))
        for address in (0, 4, 8):
            write(self.s, self.p, address, 9)
        flag(self.s, self.p, 0, 3, merge=True, stay=True, wipe=True)
        protect(self.s, self.p, 1, 1, "none")
        before = regions(self.s, self.p)
        self.assertIsNone(drop(self.s, self.p, 0, 3))
        self.assertEqual(self.cells(0, 1, 2), [ZEROS, ZEROS, (1, 2, 3, 4)])
        self.assertEqual(regions(self.s, self.p), before)
        self.assertEqual((kept(self.s), touched(self.s)), (0, [("file", "f", 0), "private", "private", ("file", "f", 0),
                                                               "private"]))

    def test_only_the_pages_of_the_range(self):
        self.map(3)
        for address in (0, 4, 8):
            write(self.s, self.p, address, 9)
        drop(self.s, self.p, 1, 1)
        self.assertEqual(self.cells(0, 1, 2), [(9, 0, 0, 0), ZEROS, (9, 0, 0, 0)])

    def test_other_holders_keep_the_class(self):
        self.map(1)
        write(self.s, self.p, 0, 9)
        c = fork(self.s, self.p)
        drop(self.s, self.p, 0, 1)
        self.assertEqual((self.cells(0), cells(self.s, c, 0)), ([ZEROS], (9, 0, 0, 0)))

    def test_shared_pages_stay(self):
        give_file(self.s, "f", [(1, 2, 3, 4)])
        self.map(1, shared=True)
        self.map(1, shared=True, source=("file", "f"))
        write(self.s, self.p, 0, 9)
        write(self.s, self.p, 4, 9)
        drop(self.s, self.p, 0, 2)
        self.assertEqual(self.cells(0, 1), [(9, 0, 0, 0), (9, 2, 3, 4)])

    def test_errors(self):
        self.map(4)
        for number in (1, 2, 3):
            write(self.s, self.p, 4 * number, 1)
        lock(self.s, self.p, 1, 1)
        lock(self.s, self.p, 2, 1)
        refuses_range(self, self.s, self.p, drop)
        refuses(self, self.s, "NotMapped", 4, drop, self.p, 0, 5)
        refuses(self, self.s, "NotMapped", 511, drop, self.p, 511, 1)
        refuses(self, self.s, "NoLock", 1, drop, self.p, 0, 4)
        refuses(self, self.s, "NoLock", 2, drop, self.p, 2, 2)
        drop(self.s, self.p, 3, 1)


class Touches(Case):
    """What is touched, and in which order (7.1)."""

    def items(self, *numbers):
        return [self.s.tables[self.p][number].held for number in numbers]

    def test_reads(self):
        give_file(self.s, "f", [ZEROS])
        self.map(1)
        self.map(1, shared=True)
        self.map(1, source=("file", "f"))
        for address in (0, 4):
            read(self.s, self.p, address)
        self.assertEqual(touched(self.s), [])
        read(self.s, self.p, 8)
        write(self.s, self.p, 0, 1)
        write(self.s, self.p, 4, 1)
        read(self.s, self.p, 4)
        read(self.s, self.p, 0)
        self.assertEqual(touched(self.s), [("file", "f", 0), "private", ("object", 1, 0), ("object", 1, 0), "private"])

    def test_writes_of_zeros_and_in_place(self):
        self.map(1)
        self.map(1, shared=True)
        for address in (0, 0, 4, 4):
            write(self.s, self.p, address, 1)
        self.assertEqual(self.s.history.touches, self.items(0, 0) + [self.s.object_pages[(1, 0)]] * 2)

    def test_a_copy_touches_the_old_class_first(self):
        self.map(1)
        write(self.s, self.p, 0, 1)
        [old] = self.items(0)
        fork(self.s, self.p)
        write(self.s, self.p, 0, 2)
        [new] = self.items(0)
        self.assertIsNot(new, old)
        self.assertEqual(self.s.history.touches, [old, old, new])

    def test_a_copy_of_a_file_page_touches_it_first(self):
        give_file(self.s, "f", [ZEROS, ZEROS])
        self.map(1, source=("file", "f"), index=1)
        self.map(1, source=("file", "f"), index=1, shared=True)
        write(self.s, self.p, 0, 1)
        self.assertEqual(self.s.history.touches, [self.s.files["f"][1]] + self.items(0))
        write(self.s, self.p, 4, 1)
        self.assertEqual(self.s.history.touches[2:], [self.s.files["f"][1]])

    def test_a_copy_of_a_locked_page_touches_the_new_class_once(self):
        self.map(1)
        write(self.s, self.p, 0, 1)
        lock(self.s, self.p, 0, 1)
        fork(self.s, self.p)
        write(self.s, self.p, 0, 2)
        self.assertEqual(len(self.s.history.touches), 4)
        self.assertEqual(self.s.history.touches[3:], self.items(0))

    def test_nothing_else_touches(self):
        self.map(3)
        write(self.s, self.p, 0, 1)
        c = fork(self.s, self.p)
        protect(self.s, c, 0, 1, "r")
        flag(self.s, c, 0, 1, merge=True)
        drop(self.s, c, 0, 1)
        unmap(self.s, c, 0, 3)
        leave(self.s, c)
        self.assertEqual(touched(self.s), ["private"])


if __name__ == "__main__":
    unittest.main()
