"""Mapping, attributes, moves, regions and gaps (1.2 to 1.4, 1.6)."""

import unittest

from pageclass.access import read, write
from pageclass.locks import lock
from pageclass.spaces import flag, gap, map_pages, move, protect, regions, unmap, widest
from pageclass.systems import System, fork, fresh, leave, spawn
from support import ODD, cells, give_file, kept, refuses, refuses_range

ZEROS = (0, 0, 0, 0)


def plain(first, count, rights="rw", flags=()):
    """The region of private pages without a source."""
    return (first, count, rights, False, None, None, flags)


class Case(unittest.TestCase):

    def setUp(self):
        self.s = System()
        self.p = spawn(self.s)

    def map(self, count, **named):
        return map_pages(self.s, self.p, count, **named)

    def regions(self):
        return regions(self.s, self.p)

    def part(self, part, *args, **named):
        refuses(self, self.s, "NoPages", part, map_pages, self.p, *args, **named)


class Mapping(Case):

    def test_the_lowest_gap(self):
        self.assertEqual([self.map(2), self.map(3), self.map(1)], [0, 2, 5])
        unmap(self.s, self.p, 2, 2)
        self.assertEqual([self.map(3), self.map(2), self.map(1)], [6, 2, 9])

    def test_all_counts(self):
        for count in range(1, 513):
            self.assertEqual(self.map(count), 0)
            self.assertEqual(self.regions(), [plain(0, count)])
            fresh(self.s, self.p)

    def test_wrong_counts(self):
        for count in ODD + (None, 0, -1, 513, 10 ** 30):
            self.part("count", count)
            self.part("count", count, rights="x", shared=1, source=1, index=-1, at=-1)

    def test_no_gap_left(self):
        self.map(511)
        self.part("at", 2)
        self.assertEqual(self.map(1), 511)
        self.part("at", 1)
        unmap(self.s, self.p, 100, 2)
        unmap(self.s, self.p, 200, 3)
        self.part("at", 4)
        self.assertEqual([self.map(3), self.map(1), self.map(1)], [200, 100, 101])
        self.part("at", 512)

    def test_at(self):
        self.assertEqual([self.map(1, at=0), self.map(1, at=511), self.map(3, at=5)], [0, 511, 5])
        self.assertEqual(self.regions(), [plain(0, 1), plain(5, 3), plain(511, 1)])
        self.assertEqual(self.map(512, at=0), 0)
        self.assertEqual(self.regions(), [plain(0, 512)])

    def test_wrong_at(self):
        for at in ODD + (-1, 512, 10 ** 30):
            self.part("at", 1, at=at)
        self.part("at", 2, at=511)
        self.part("at", 512, at=1)
        self.part("at", 13, at=500)
        self.assertEqual(self.map(12, at=500), 500)

    def test_over_mapped_pages(self):
        self.map(6)
        for number in range(6):
            write(self.s, self.p, 4 * number, 1 + number)
        self.assertEqual(self.map(3, rights="r", at=2), 2)
        self.assertEqual(self.regions(), [plain(0, 2), plain(2, 3, "r"), plain(5, 1)])
        self.assertEqual([read(self.s, self.p, 4 * k) for k in range(6)], [1, 2, 0, 0, 0, 6])
        self.assertEqual(kept(self.s), 3)

    def test_new_pages_have_no_flags(self):
        self.map(1)
        write(self.s, self.p, 0, 1)
        flag(self.s, self.p, 0, 1, merge=True, stay=True, wipe=True)
        lock(self.s, self.p, 0, 1)
        self.map(1, at=0)
        self.assertEqual(self.regions(), [plain(0, 1)])

    def test_rights(self):
        for at, rights in enumerate(("none", "r", "rw")):
            self.map(1, rights=rights, at=at)
        self.assertEqual([row[2] for row in self.regions()], ["none", "r", "rw"])
        for rights in ODD + (None, 1, "w", "R", "rwx", "no", "r "):
            self.part("rights", 1, rights=rights)
            self.part("rights", 1, rights=rights, shared=1, source=1, index=-1, at=-1)

    def test_shared(self):
        for shared in ODD + (None, 0, 1, "True"):
            if not isinstance(shared, bool):
                self.part("shared", 1, shared=shared)
                self.part("shared", 1, shared=shared, source=("file", "x"), index=-1, at=-1)

    def test_index_without_a_source(self):
        for shared in (False, True):
            for index in ODD + (None, 1, -1, 512, 10 ** 30):
                self.part("index", 1, shared=shared, index=index)
                self.part("index", 1, shared=shared, index=index, at=-1)

    def test_index_with_a_source(self):
        self.map(1, shared=True)
        give_file(self.s, "f", [ZEROS])
        for shared, source in ((True, ("object", 1)), (True, ("file", "f")), (False, ("file", "f"))):
            for index in ODD + (None, -1, 512, 10 ** 30):
                self.part("index", 1, shared=shared, source=source, index=index, at=512)
            self.part("index", 2, shared=shared, source=source, index=511)
            self.part("index", 512, shared=shared, source=source, index=1, at=0)
            self.map(2, shared=shared, source=source, index=510, at=20)
            self.assertIn((20, 2, "rw", shared, source, 510, ()), self.regions())
            self.map(512, shared=shared, source=source, index=0, at=0)
            self.assertEqual(self.regions(), [(0, 512, "rw", shared, source, 0, ())])

    def test_all_parameters_are_checked_ahead_of_gaps(self):
        self.map(512)
        self.part("rights", 1, rights="x")
        self.part("index", 1, index=1)
        refuses(self, self.s, "NoFile", "f", map_pages, self.p, 1, source=("file", "f"))
        self.part("at", 1)


class Sources(Case):

    def test_wrong_sources(self):
        for shared in (False, True):
            for source in ODD + (0, 1, "file", ("file",), ("object",), ("file", "f", 0), ("object", 1, 0),
                                 ["file", "f"], ("files", "f"), ("", "f"), (None, None), ([], 1),
                                 ("object", 0), ("object", 1)):
                self.part("source", 1, shared=shared, source=source)
                self.part("source", 1, shared=shared, source=source, index=-1, at=-1)
            for kind in ODD + (None, 1, "f"):
                self.part("source", 1, shared=shared, source=(kind, "f"))

    def test_no_file(self):
        give_file(self.s, "f", [ZEROS])
        for shared in (False, True):
            for name in ODD + (None, 0, "", "g", "ff", "F", "abcdefghi", ("f",)):
                refuses(self, self.s, "NoFile", name, map_pages, self.p, 1, shared=shared, source=("file", name))
                refuses(self, self.s, "NoFile", name, map_pages, self.p, 1, shared=shared, source=("file", name),
                        index=-1, at=-1)

    def test_no_object(self):
        self.map(1, shared=True)
        for number in ODD + (None, 0, -1, 2, 10 ** 30):
            self.part("source", 1, shared=True, source=("object", number))
        self.part("source", 1, shared=False, source=("object", 1))
        self.part("source", 1, source=("object", 1), index=-1)

    def test_a_private_file(self):
        give_file(self.s, "f", [(1, 2, 3, 4), (5, 6, 7, 8)])
        self.assertEqual(self.map(3, source=("file", "f")), 0)
        self.assertEqual(self.regions(), [(0, 3, "rw", False, ("file", "f"), 0, ())])
        self.assertEqual([cells(self.s, self.p, k) for k in range(3)], [(1, 2, 3, 4), (5, 6, 7, 8), None])
        self.assertEqual(self.map(1, source=("file", "f"), index=1), 3)
        self.assertEqual(cells(self.s, self.p, 3), (5, 6, 7, 8))

    def test_a_shared_file(self):
        give_file(self.s, "f", [(1, 2, 3, 4)])
        self.map(1, shared=True, source=("file", "f"))
        self.map(1, source=("file", "f"))
        write(self.s, self.p, 0, 9)
        self.assertEqual([read(self.s, self.p, 0), read(self.s, self.p, 4)], [9, 9])
        self.assertEqual(kept(self.s), 0)

    def test_a_new_object_for_each_map(self):
        self.map(2, shared=True)
        self.map(2, shared=True)
        self.assertEqual(self.regions(), [(0, 2, "rw", True, ("object", 1), 0, ()),
                                          (2, 2, "rw", True, ("object", 2), 0, ())])
        write(self.s, self.p, 0, 1)
        self.assertEqual(read(self.s, self.p, 8), 0)

    def test_an_object_as_source(self):
        self.map(2, shared=True)
        q = spawn(self.s)
        map_pages(self.s, q, 3, shared=True, source=("object", 1), index=1, rights="r")
        write(self.s, self.p, 7, 5)
        self.assertEqual(read(self.s, q, 3), 5)
        write(self.s, self.p, 0, 6)
        self.assertEqual([cells(self.s, q, k) for k in range(3)], [(0, 0, 0, 5), ZEROS, ZEROS])

    def test_an_object_exists_as_long_as_a_page_is_mapped(self):
        self.map(3, shared=True)
        unmap(self.s, self.p, 0, 2)
        self.map(1, shared=True, source=("object", 1), at=50)
        unmap(self.s, self.p, 2, 1)
        self.map(1, shared=True, source=("object", 1), at=60)
        unmap(self.s, self.p, 40, 30)
        self.part("source", 1, shared=True, source=("object", 1))

    def test_each_way_an_object_ends(self):
        def map_over(s, p):
            map_pages(s, p, 1, at=0)

        def move_over(s, p):
            map_pages(s, p, 1, at=5)
            move(s, p, 5, 1, 0)

        for number, end in enumerate((fresh, leave, map_over, move_over), 1):
            q = spawn(self.s)
            map_pages(self.s, q, 1, shared=True)
            write(self.s, q, 0, 1)
            self.map(1, shared=True, source=("object", number), index=7, at=9)
            unmap(self.s, self.p, 9, 1)
            end(self.s, q)
            self.part("source", 1, shared=True, source=("object", number))
            self.assertEqual((self.s.objects, self.s.object_pages, self.s.classes), ({}, {}, {}))

    def test_a_child_keeps_an_object(self):
        self.map(1, shared=True)
        write(self.s, self.p, 0, 3)
        c = fork(self.s, self.p)
        leave(self.s, self.p)
        self.assertEqual(map_pages(self.s, c, 1, shared=True, source=("object", 1)), 1)
        self.assertEqual(read(self.s, c, 4), 3)

    def test_numbers_of_objects_are_never_used_again(self):
        for number in (1, 2, 3):
            self.map(1, shared=True, at=0)
            self.assertEqual(self.regions()[0][4], ("object", number))
            fresh(self.s, self.p)

    def test_steps_that_raise_use_no_number_of_an_object(self):
        s = System(frames=1, slots=1, strict=True)
        p = spawn(s)
        map_pages(s, p, 1, shared=True)
        refuses(self, s, "NoCharge", None, map_pages, p, 2, shared=True)
        refuses(self, s, "NoPages", "at", map_pages, p, 2, shared=True, at=511)
        map_pages(s, p, 1, shared=True)
        self.assertEqual([row[4] for row in regions(s, p)], [("object", 1), ("object", 2)])

    def test_what_new_pages_show_does_not_vanish(self):
        self.map(2, shared=True)
        write(self.s, self.p, 0, 1)
        write(self.s, self.p, 4, 2)
        self.map(2, shared=True, source=("object", 1), at=0)
        self.assertEqual([read(self.s, self.p, 0), read(self.s, self.p, 4)], [1, 2])
        self.map(2, shared=True, source=("object", 1), index=1, at=0)
        self.assertEqual([read(self.s, self.p, 0), read(self.s, self.p, 4)], [2, 0])
        self.map(2, shared=True, source=("object", 1), at=0)
        self.assertEqual([read(self.s, self.p, 0), read(self.s, self.p, 4)], [0, 2])
        self.map(2, shared=True, source=("object", 1), index=5, at=0)
        self.assertEqual(self.regions(), [(0, 2, "rw", True, ("object", 1), 5, ())])
        self.map(2, shared=True, source=("object", 1), at=0)
        self.assertEqual([read(self.s, self.p, 0), read(self.s, self.p, 4)], [0, 0])

    def test_an_object_page_that_nobody_shows_is_gone(self):
        self.map(2, shared=True)
        write(self.s, self.p, 0, 1)
        write(self.s, self.p, 4, 2)
        unmap(self.s, self.p, 0, 1)
        self.map(1, shared=True, source=("object", 1))
        self.assertEqual([read(self.s, self.p, 0), read(self.s, self.p, 4)], [0, 2])


class Unmapping(Case):

    def test_mapped_and_unmapped_pages(self):
        self.map(4)
        self.assertIsNone(unmap(self.s, self.p, 1, 2))
        self.assertEqual(self.regions(), [plain(0, 1), plain(3, 1)])
        unmap(self.s, self.p, 0, 512)
        unmap(self.s, self.p, 0, 512)
        unmap(self.s, self.p, 511, 1)
        self.assertEqual(self.regions(), [])

    def test_a_class_without_a_holder_is_gone(self):
        self.map(1)
        write(self.s, self.p, 0, 1)
        c = fork(self.s, self.p)
        unmap(self.s, self.p, 0, 1)
        self.assertEqual(kept(self.s), 1)
        unmap(self.s, c, 0, 1)
        self.assertEqual(kept(self.s), 0)

    def test_locked_pages(self):
        self.map(1)
        write(self.s, self.p, 0, 1)
        lock(self.s, self.p, 0, 1)
        unmap(self.s, self.p, 0, 1)
        self.assertEqual(kept(self.s), 0)

    def test_errors(self):
        refuses_range(self, self.s, self.p, unmap)


class Protecting(Case):

    def test_rights(self):
        self.map(512)
        self.assertIsNone(protect(self.s, self.p, 0, 1, "r"))
        protect(self.s, self.p, 511, 1, "none")
        self.assertEqual(self.regions(), [plain(0, 1, "r"), plain(1, 510), plain(511, 1, "none")])
        protect(self.s, self.p, 0, 512, "rw")
        self.assertEqual(self.regions(), [plain(0, 512)])

    def test_the_content_and_the_other_attributes_stay(self):
        self.map(1)
        write(self.s, self.p, 2, 7)
        flag(self.s, self.p, 0, 1, merge=True)
        protect(self.s, self.p, 0, 1, "none")
        protect(self.s, self.p, 0, 1, "r")
        self.assertEqual(self.regions(), [plain(0, 1, "r", ("merge",))])
        self.assertEqual(read(self.s, self.p, 2), 7)

    def test_errors(self):
        self.map(2)
        refuses_range(self, self.s, self.p, protect, "x")
        for rights in ODD + (None, 0, "w", "NONE"):
            refuses(self, self.s, "NoPages", "rights", protect, self.p, 0, 1, rights)
            refuses(self, self.s, "NoPages", "rights", protect, self.p, 5, 1, rights)
        refuses(self, self.s, "NotMapped", 2, protect, self.p, 0, 512, "r")
        refuses(self, self.s, "NotMapped", 511, protect, self.p, 511, 1, "r")

    def test_locked_pages(self):
        self.map(4)
        write(self.s, self.p, 4, 1)
        write(self.s, self.p, 8, 1)
        lock(self.s, self.p, 1, 1)
        lock(self.s, self.p, 2, 1)
        for rights in ("none", "r"):
            refuses(self, self.s, "NoLock", 1, protect, self.p, 0, 4, rights)
            refuses(self, self.s, "NoLock", 2, protect, self.p, 2, 1, rights)
            refuses(self, self.s, "NotMapped", 4, protect, self.p, 0, 5, rights)
        protect(self.s, self.p, 0, 4, "rw")
        protect(self.s, self.p, 3, 1, "r")


class Flagging(Case):

    def test_setting_clearing_and_leaving(self):
        self.map(2)
        self.assertIsNone(flag(self.s, self.p, 0, 2, wipe=True, merge=True))
        self.assertEqual(self.regions(), [plain(0, 2, flags=("merge", "wipe"))])
        flag(self.s, self.p, 0, 2, stay=True, merge=False)
        self.assertEqual(self.regions(), [plain(0, 2, flags=("stay", "wipe"))])
        flag(self.s, self.p, 0, 2)
        self.assertEqual(self.regions(), [plain(0, 2, flags=("stay", "wipe"))])
        flag(self.s, self.p, 1, 1, merge=False, stay=False, wipe=False)
        self.assertEqual(self.regions(), [plain(0, 1, flags=("stay", "wipe")), plain(1, 1)])

    def test_they_are_sorted_and_lock_is_left(self):
        self.map(1)
        write(self.s, self.p, 0, 1)
        flag(self.s, self.p, 0, 1, wipe=True)
        lock(self.s, self.p, 0, 1)
        flag(self.s, self.p, 0, 1, stay=True)
        flag(self.s, self.p, 0, 1, merge=True)
        self.assertEqual(self.regions()[0][6], ("lock", "merge", "stay", "wipe"))
        self.assertEqual(read(self.s, self.p, 0), 1)

    def test_shared_pages(self):
        self.map(1, shared=True)
        flag(self.s, self.p, 0, 1, merge=True, stay=True, wipe=True)
        self.assertEqual(self.regions(), [(0, 1, "rw", True, ("object", 1), 0, ("merge", "stay", "wipe"))])

    def test_errors(self):
        self.map(2)
        refuses_range(self, self.s, self.p, flag, merge=5)
        for value in ODD + (0, 1, "True"):
            if not isinstance(value, bool):
                refuses(self, self.s, "NoPages", "merge", flag, self.p, 0, 1, merge=value, stay=value, wipe=value)
                refuses(self, self.s, "NoPages", "stay", flag, self.p, 0, 1, stay=value, wipe=value, merge=True)
                refuses(self, self.s, "NoPages", "wipe", flag, self.p, 5, 1, wipe=value)
        refuses(self, self.s, "NotMapped", 2, flag, self.p, 0, 512, merge=True)
        refuses(self, self.s, "NotMapped", 2, flag, self.p, 2, 1)


class Moving(Case):

    def test_attributes_and_contents_move(self):
        self.map(3, shared=True)
        self.map(1, rights="r")
        flag(self.s, self.p, 1, 3, stay=True)
        write(self.s, self.p, 4, 8)
        self.assertIsNone(move(self.s, self.p, 1, 3, 509))
        self.assertEqual(self.regions(), [(0, 1, "rw", True, ("object", 1), 0, ()),
                                          (509, 2, "rw", True, ("object", 1), 1, ("stay",)),
                                          plain(511, 1, "r", ("stay",))])
        self.assertEqual(read(self.s, self.p, 4 * 509), 8)

    def test_private_contents(self):
        self.map(2)
        write(self.s, self.p, 0, 1)
        write(self.s, self.p, 4, 2)
        c = fork(self.s, self.p)
        move(self.s, self.p, 0, 2, 2)
        self.assertEqual([read(self.s, self.p, a) for a in (8, 12)], [1, 2])
        self.assertEqual(kept(self.s), 2)
        write(self.s, self.p, 8, 3)
        self.assertEqual([read(self.s, c, 0), read(self.s, self.p, 8)], [1, 3])
        move(self.s, self.p, 2, 2, 0)
        self.assertEqual(self.regions(), [plain(0, 2)])

    def test_over_mapped_pages(self):
        self.map(6)
        for number in range(6):
            write(self.s, self.p, 4 * number, 1 + number)
        move(self.s, self.p, 3, 3, 0)
        self.assertEqual([read(self.s, self.p, 4 * k) for k in range(3)], [4, 5, 6])
        self.assertEqual(self.regions(), [plain(0, 3)])
        self.assertEqual(kept(self.s), 3)

    def test_over_a_page_of_the_same_class_or_object(self):
        self.map(1, shared=True)
        self.map(1, shared=True, source=("object", 1))
        write(self.s, self.p, 0, 5)
        move(self.s, self.p, 0, 1, 1)
        self.assertEqual(read(self.s, self.p, 4), 5)
        move(self.s, self.p, 1, 1, 0)
        self.assertEqual(self.regions(), [(0, 1, "rw", True, ("object", 1), 0, ())])
        self.assertEqual(kept(self.s), 1)

    def test_half_the_pages_over_the_other_half(self):
        self.map(256)
        self.map(256, rights="r")
        move(self.s, self.p, 256, 256, 0)
        self.assertEqual(self.regions(), [plain(0, 256, "r")])
        move(self.s, self.p, 0, 256, 256)
        self.assertEqual(self.regions(), [plain(256, 256, "r")])

    def test_locked_pages(self):
        self.map(2)
        write(self.s, self.p, 0, 1)
        write(self.s, self.p, 4, 2)
        lock(self.s, self.p, 0, 1)
        lock(self.s, self.p, 1, 1)
        move(self.s, self.p, 0, 1, 1)
        self.assertEqual(self.regions(), [plain(1, 1, flags=("lock",))])
        self.assertEqual(read(self.s, self.p, 4), 1)

    def test_errors(self):
        self.map(10, at=100)
        refuses_range(self, self.s, self.p, move, "x")
        for to in ODD + (None, -1, 512, 10 ** 30):
            refuses(self, self.s, "NoPages", "to", move, self.p, 100, 1, to)
            refuses(self, self.s, "NoPages", "to", move, self.p, 0, 1, to)
        refuses(self, self.s, "NoPages", "to", move, self.p, 100, 10, 503)
        for to in (91, 99, 100, 101, 109):
            refuses(self, self.s, "NoPages", "to", move, self.p, 100, 10, to)
            refuses(self, self.s, "NoPages", "to", move, self.p, 100, 11, to)
        refuses(self, self.s, "NotMapped", 110, move, self.p, 100, 11, 0)
        refuses(self, self.s, "NotMapped", 99, move, self.p, 99, 11, 0)

    def test_neighbours_have_no_page_in_common(self):
        self.map(10, at=100)
        for first, to in ((100, 110), (110, 100), (100, 90), (90, 502), (502, 0)):
            move(self.s, self.p, first, 10, to)
            self.assertEqual(self.regions(), [plain(to, 10)])


class Regions(Case):

    def test_none(self):
        self.assertEqual(self.regions(), [])

    def test_the_whole_space(self):
        self.map(512)
        self.assertEqual(self.regions(), [plain(0, 512)])

    def test_neighbours_join(self):
        self.map(1, at=4)
        self.map(1, at=6)
        self.assertEqual(self.regions(), [plain(4, 1), plain(6, 1)])
        self.map(1, at=5)
        self.assertEqual(self.regions(), [plain(4, 3)])

    def test_contents_mean_nothing(self):
        self.map(3)
        write(self.s, self.p, 4, 1)
        self.assertEqual(self.regions(), [plain(0, 3)])

    def test_each_attribute_splits(self):
        self.map(6)
        protect(self.s, self.p, 1, 1, "r")
        flag(self.s, self.p, 3, 1, merge=True)
        self.assertEqual(self.regions(), [plain(0, 1), plain(1, 1, "r"), plain(2, 1), plain(3, 1, "rw", ("merge",)),
                                          plain(4, 2)])
        protect(self.s, self.p, 1, 1, "rw")
        flag(self.s, self.p, 3, 1, merge=False)
        self.assertEqual(self.regions(), [plain(0, 6)])

    def test_shared_splits(self):
        give_file(self.s, "f", [ZEROS] * 3)
        self.map(1, source=("file", "f"))
        self.map(1, source=("file", "f"), index=1, shared=True)
        self.assertEqual(self.regions(), [(0, 1, "rw", False, ("file", "f"), 0, ()),
                                          (1, 1, "rw", True, ("file", "f"), 1, ())])

    def test_sources_split(self):
        give_file(self.s, "f", [ZEROS])
        give_file(self.s, "g", [ZEROS])
        self.map(1, source=("file", "f"))
        self.map(1, source=("file", "g"), index=1)
        self.map(1)
        self.assertEqual([row[4] for row in self.regions()], [("file", "f"), ("file", "g"), None])

    def test_running_indexes(self):
        self.map(2, shared=True)
        self.map(1, shared=True, source=("object", 1), index=2)
        self.assertEqual(self.regions(), [(0, 3, "rw", True, ("object", 1), 0, ())])
        self.map(1, shared=True, source=("object", 1), index=2)
        self.map(1, shared=True, source=("object", 1), index=4)
        self.map(1, shared=True, source=("object", 1), index=3)
        self.assertEqual([row[:2] + row[5:6] for row in self.regions()], [(0, 3, 0), (3, 1, 2), (4, 1, 4), (5, 1, 3)])
        move(self.s, self.p, 5, 1, 3)
        self.assertEqual([row[:2] + row[5:6] for row in self.regions()], [(0, 5, 0)])

    def test_a_hole_splits_running_indexes(self):
        self.map(4, shared=True)
        unmap(self.s, self.p, 1, 1)
        self.assertEqual([row[:2] + row[5:6] for row in self.regions()], [(0, 1, 0), (2, 2, 2)])

    def test_kinds_of_values(self):
        self.map(1, shared=True)
        [row] = self.regions()
        self.assertEqual([type(value) for value in row], [int, int, str, bool, tuple, int, tuple])
        self.assertIs(type(row), tuple)

    def test_the_list_belongs_to_the_caller(self):
        self.map(1)
        self.regions().clear()
        self.assertEqual(self.regions(), [plain(0, 1)])


class Gaps(Case):

    def test_an_empty_process(self):
        self.assertEqual([gap(self.s, self.p, 1), gap(self.s, self.p, 512), widest(self.s, self.p)], [0, 0, 512])

    def test_the_lowest_one(self):
        self.map(512)
        for first, count in ((3, 2), (10, 4), (511, 1)):
            unmap(self.s, self.p, first, count)
        self.assertEqual([gap(self.s, self.p, k) for k in (1, 2, 3, 4, 5, 512)], [3, 3, 10, 10, None, None])
        self.assertEqual(widest(self.s, self.p), 4)

    def test_the_ends(self):
        self.map(510, at=1)
        self.assertEqual([gap(self.s, self.p, 1), gap(self.s, self.p, 2), widest(self.s, self.p)], [0, None, 1])
        self.map(1)
        self.assertEqual([gap(self.s, self.p, 1), widest(self.s, self.p)], [511, 1])
        self.map(1)
        self.assertEqual([gap(self.s, self.p, 1), widest(self.s, self.p)], [None, 0])

    def test_they_change_nothing(self):
        self.assertEqual([gap(self.s, self.p, 2), gap(self.s, self.p, 2)], [0, 0])

    def test_errors(self):
        for count in ODD + (None, 0, -1, 513, 10 ** 30):
            refuses(self, self.s, "NoPages", "count", gap, self.p, count)


if __name__ == "__main__":
    unittest.main()
