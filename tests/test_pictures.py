"""Stamps, origins, pictures and increments (10.1, 10.2)."""

import unittest

from pageclass.access import drop, need, read, write
from pageclass.families import family, restore
from pageclass.files import create, crash, drop_cache, read_page, sync, truncate, write_page
from pageclass.locks import lock, unlock
from pageclass.merging import merge
from pageclass.pictures import changed, compose, increment, origin, picture, stamp
from pageclass.sharing import same
from pageclass.spaces import flag, map_pages, move, protect, regions, unmap
from pageclass.systems import System, fork, fresh, now, spawn
from support import ODD, asks_place, refuses, refuses_process

ZEROS = (0, 0, 0, 0)
ONES = (1, 1, 1, 1)
HUGE = 10 ** 3000


class Case(unittest.TestCase):

    def setUp(self):
        """A process with four pages, then four private ones and four shared ones of a file, then four of an object."""
        self.s = System()
        self.p = spawn(self.s)
        create(self.s, "f", 4)
        map_pages(self.s, self.p, 4)
        map_pages(self.s, self.p, 4, source=("file", "f"))
        map_pages(self.s, self.p, 4, source=("file", "f"), shared=True)
        map_pages(self.s, self.p, 4, shared=True)

    def write(self, *numbers):
        for number in numbers:
            write(self.s, self.p, 4 * number, 1)

    def stamps(self, *numbers):
        return [stamp(self.s, (self.p, number)) for number in numbers]

    def origins(self, *numbers):
        return [origin(self.s, (self.p, number)) for number in numbers]

    def stamped(self, step, *args, process=None, **named):
        """The pages of a process that a step has stamped."""
        process = self.p if process is None else process
        table = [number for first, count, *_ in regions(self.s, process) for number in range(first, first + count)]
        before = {number: stamp(self.s, (process, number)) for number in table}
        step(self.s, *args, **named)
        told = []
        for first, count, *_ in regions(self.s, process):
            for number in range(first, first + count):
                if before.get(number) != stamp(self.s, (process, number)):
                    self.assertEqual(stamp(self.s, (process, number)), now(self.s))
                    told.append(number)
        self.assertEqual(changed(self.s, process, now(self.s) - 1), told)
        return told


class Stamps(Case):

    def test_map_pages(self):
        self.assertEqual(self.stamps(0, 3, 4, 7, 8, 11, 12, 15), [3, 3, 4, 4, 5, 5, 6, 6])
        self.assertEqual(self.stamped(map_pages, self.p, 2, at=1), [1, 2])
        self.assertEqual(self.stamped(map_pages, self.p, 1, at=20, rights="none"), [20])

    def test_writes_of_private_pages(self):
        self.assertEqual(self.stamped(write, self.p, 4, 7), [1])
        self.assertEqual(self.stamped(write, self.p, 4, 7), [1])
        self.assertEqual(self.stamped(write, self.p, 16, 7), [4])

    def test_a_copy_stamps_the_page_that_is_written(self):
        self.write(0)
        c = fork(self.s, self.p)
        self.assertEqual(self.stamped(write, c, 0, 2), [])
        self.assertEqual(self.stamped(write, c, 0, 2, process=c), [0])
        self.assertEqual(self.stamped(write, self.p, 0, 2, process=c), [])
        self.assertEqual(self.stamped(write, self.p, 0, 2), [0])

    def test_writes_to_an_object_page(self):
        c = fork(self.s, self.p)
        for process in (self.p, c):
            self.assertEqual(self.stamped(write, c, 48, 1, process=process), [12])
            self.assertEqual(self.stamped(write, self.p, 48, 1, process=process), [12])

    def test_all_pages_that_show_an_object_page(self):
        map_pages(self.s, self.p, 2, shared=True, source=("object", 1), index=1, rights="none")
        self.assertEqual(self.stamped(write, self.p, 52, 1), [13, 16])

    def test_writes_to_a_file_page(self):
        c = fork(self.s, self.p)
        for process in (self.p, c):
            self.assertEqual(self.stamped(write, self.p, 36, 1, process=process), [5, 9])
            self.assertEqual(self.stamped(write_page, "f", 1, ONES, process=process), [5, 9])

    def test_a_page_that_holds_a_class_no_longer_follows_its_file(self):
        self.write(5)
        lock(self.s, self.p, 6, 1)
        self.assertEqual(self.stamped(write_page, "f", 1, ONES), [9])
        self.assertEqual(self.stamped(write_page, "f", 2, ONES), [10])
        self.assertEqual(self.stamped(truncate, "f", 0), [4, 7, 8, 9, 10, 11])
        self.assertEqual(self.stamps(6), [4])

    def test_drop(self):
        self.write(1, 5, 9, 13)
        self.assertEqual(self.stamped(drop, self.p, 0, 16), list(range(8)))
        self.assertEqual(self.stamped(drop, self.p, 1, 1), [1])
        self.assertEqual(self.stamped(drop, self.p, 8, 8), [])

    def test_a_page_that_was_dropped_follows_its_file(self):
        self.write(5)
        drop(self.s, self.p, 5, 1)
        self.assertEqual(self.stamped(write_page, "f", 1, ONES), [5, 9])

    def test_move(self):
        self.write(1)
        self.assertEqual(self.stamped(move, self.p, 1, 2, 20), [20, 21])
        self.assertEqual(self.stamped(move, self.p, 11, 2, 1), [1, 2])

    def test_truncate(self):
        self.assertEqual(self.stamped(truncate, "f", 2), [6, 7, 10, 11])
        self.assertEqual(self.stamped(truncate, "f", 1), [5, 9])
        self.assertEqual(self.stamped(truncate, "f", 3), [5, 6, 9, 10])
        self.assertEqual(self.stamped(truncate, "f", 3), [])
        self.assertEqual(self.stamped(truncate, "f", 64), [7, 11])
        create(self.s, "g", 1)
        self.assertEqual(self.stamped(truncate, "g", 0), [])

    def test_a_page_behind_truncate_follows_its_file(self):
        truncate(self.s, "f", 2)
        truncate(self.s, "f", 3)
        self.assertEqual(self.stamped(write_page, "f", 2, ONES), [6, 10])

    def test_a_fork_with_wipe(self):
        self.write(1)
        flag(self.s, self.p, 1, 12, wipe=True)
        before = self.stamps(*range(16))
        c = fork(self.s, self.p)
        self.assertEqual(changed(self.s, c, now(self.s) - 1), list(range(1, 8)))
        self.assertEqual([stamp(self.s, (c, number)) for number in (0, *range(8, 16))], before[:1] + before[8:])
        self.assertEqual(self.stamps(*range(16)), before)

    def test_a_child_has_the_stamps_of_its_process(self):
        self.write(0, 4, 9, 13)
        write_page(self.s, "f", 3, ONES)
        c = fork(self.s, self.p)
        self.assertEqual([stamp(self.s, (c, number)) for number in range(16)], self.stamps(*range(16)))
        self.write(0, 9)
        self.assertEqual(stamp(self.s, (c, 9)), self.stamps(9)[0])
        self.assertLess(stamp(self.s, (c, 0)), self.stamps(0)[0])

    def test_what_stamps_nothing(self):
        self.write(0, 1, 4, 8, 12)
        flag(self.s, self.p, 0, 16, merge=True)
        for step, args in ((read, (self.p, 0)), (need, (self.p, 0, 16)), (protect, (self.p, 0, 16, "r")), (fork, (self.p,)),
                           (merge, ()), (sync, ("f",)), (read_page, ("f", 0)), (drop_cache, ()), (spawn, ()),
                           (create, ("g", 3)), (protect, (self.p, 0, 16, "rw")), (lock, (self.p, 0, 8)),
                           (unlock, (self.p, 0, 8)), (unmap, (self.p, 2, 1)), (fresh, (2,))):
            self.assertEqual(self.stamped(step, *args), [], step)

    def test_a_step_that_raises_an_error_stamps_nothing(self):
        before = self.stamps(*range(16))
        refuses(self, self.s, "NoPages", "content", write_page, "f", 0, (1,))
        refuses(self, self.s, "NoPages", "value", write, self.p, 0, 256)
        refuses(self, self.s, "NotMapped", 16, drop, self.p, 0, 17)
        self.assertEqual(self.stamps(*range(16)), before)

    def test_an_object_page_that_is_mapped_again(self):
        self.write(12)
        unmap(self.s, self.p, 12, 1)
        map_pages(self.s, self.p, 1, shared=True, source=("object", 1), at=12)
        self.assertEqual((self.stamps(12), self.origins(12)), ([now(self.s)], [None]))

    def test_wrong_places(self):
        asks_place(self, self.s, self.p, 16, stamp)
        asks_place(self, self.s, self.p, 16, origin)


class Origins(Case):

    def test_nothing_was_written(self):
        truncate(self.s, "f", 3)
        self.assertEqual(self.origins(*range(16)), [None] * 16)

    def test_the_last_write(self):
        self.write(0, 4, 8, 12, 0)
        self.assertEqual(self.origins(0, 4, 8, 12), [11, 8, 9, 10])
        c = fork(self.s, self.p)
        self.assertEqual([origin(self.s, (c, number)) for number in (0, 4, 8, 12)], [11, 8, 9, 10])
        write(self.s, c, 48, 1)
        write(self.s, c, 0, 1)
        self.assertEqual((self.origins(0, 12), origin(self.s, (c, 0))), ([11, 13], 14))

    def test_write_page(self):
        write_page(self.s, "f", 1, ONES)
        self.assertEqual(self.origins(4, 5, 8, 9), [None, 7, None, 7])
        self.write(9)
        self.assertEqual(self.origins(5, 9), [8, 8])
        self.write(5)
        self.assertEqual(self.origins(5, 9), [9, 8])

    def test_lock(self):
        write_page(self.s, "f", 1, ONES)
        lock(self.s, self.p, 0, 1)
        lock(self.s, self.p, 4, 2)
        self.assertEqual(self.origins(0, 4, 5), [None, None, 7])
        write_page(self.s, "f", 1, ONES)
        self.assertEqual(self.origins(5, 9), [7, now(self.s)])
        self.write(5)
        lock(self.s, self.p, 5, 1)
        self.assertEqual(self.origins(5), [now(self.s) - 1])

    def test_merge(self):
        flag(self.s, self.p, 0, 8, merge=True)
        self.write(0, 1, 2)
        self.write(0)
        at = now(self.s)
        read(self.s, self.p, 4)
        merge(self.s)
        self.assertEqual(self.origins(0, 1, 2), [at] * 3)

    def test_merge_and_none(self):
        flag(self.s, self.p, 0, 8, merge=True)
        lock(self.s, self.p, 0, 2)
        merge(self.s)
        self.assertEqual((self.origins(0, 1), same(self.s, (self.p, 0), (self.p, 1))), ([None, None], True))
        for first in (2, 3):
            write(self.s, self.p, 4 * first, 0)
            at = now(self.s)
            lock(self.s, self.p, 4, 1)
            merge(self.s)
            self.assertEqual(self.origins(0, 1, first), [at] * 3)

    def test_merge_and_none_of_a_class_that_goes(self):
        flag(self.s, self.p, 0, 8, merge=True)
        lock(self.s, self.p, 0, 2)
        unlock(self.s, self.p, 0, 2)
        write(self.s, self.p, 8, 0)
        at = now(self.s)
        self.assertEqual(merge(self.s), 2)
        self.assertEqual(self.origins(0, 1, 2), [at] * 3)

    def test_truncate(self):
        self.write(8, 10)
        truncate(self.s, "f", 2)
        truncate(self.s, "f", 4)
        self.assertEqual(self.origins(8, 10), [7, None])
        self.write(10)
        self.assertEqual(self.origins(6, 10), [11, 11])

    def test_drop_cache_and_crash(self):
        self.write(8, 9)
        drop_cache(self.s)
        self.assertEqual(self.origins(8, 9), [7, 8])
        crash(self.s)
        q = spawn(self.s)
        map_pages(self.s, q, 4, source=("file", "f"), rights="r")
        self.assertEqual([origin(self.s, (q, number)) for number in range(4)], [None] * 4)
        write_page(self.s, "f", 0, ONES)
        self.assertEqual((origin(self.s, (q, 0)), stamp(self.s, (q, 0)), stamp(self.s, (q, 1))), (13, 13, 12))

    def test_drop(self):
        self.write(0, 4)
        write_page(self.s, "f", 0, ONES)
        drop(self.s, self.p, 0, 8)
        self.assertEqual(self.origins(0, 4), [None, 9])

    def test_restore(self):
        self.write(0, 4, 8, 12)
        made = restore(self.s, family(self.s, (self.p,)))
        at = now(self.s)
        self.assertEqual([origin(self.s, (made[0], number)) for number in (0, 1, 4, 8, 12, 13)],
                         [at, None, at, 9, at, None])

    def test_equal_origins_are_the_same_class(self):
        self.write(0, 1, 4)
        c = fork(self.s, self.p)
        d = fork(self.s, c)
        write(self.s, c, 4, 1)
        write(self.s, d, 0, 1)
        write(self.s, d, 16, 1)
        places = [(process, number) for process in (self.p, c, d) for number in (0, 1, 4)]
        for one in places:
            for other in places:
                self.assertEqual(same(self.s, one, other), origin(self.s, one) == origin(self.s, other))


class Changed(Case):

    def test_since(self):
        self.assertEqual([changed(self.s, self.p, since) for since in (0, 2, 3, 4, 5, 6, 7, HUGE)],
                         [list(range(16))] * 2 + [list(range(4, 16)), list(range(8, 16)), list(range(12, 16)),
                                                  [], [], []])
        self.write(13, 2)
        self.assertEqual([changed(self.s, self.p, since) for since in (6, 7, 8)], [[2, 13], [2], []])

    def test_a_process_without_pages(self):
        q = spawn(self.s)
        self.assertEqual((changed(self.s, q, 0), picture(self.s, q), increment(self.s, q, 0)),
                         ([], ((), ()), ((), ())))

    def test_wrong_arguments(self):
        for question in (changed, increment):
            refuses_process(self, self.s, question, 0)
            refuses_process(self, self.s, question, "x")
            for since in ODD + (None, -1, -HUGE):
                refuses(self, self.s, "NoPages", "since", question, self.p, since)
        refuses_process(self, self.s, picture)

    def test_the_list_is_new(self):
        changed(self.s, self.p, 0).append(1)
        self.assertEqual(changed(self.s, self.p, 0), list(range(16)))


class Pictures(Case):

    def test_a_picture(self):
        s = System()
        p = spawn(s)
        create(s, "f", 1)
        write_page(s, "f", 0, ONES)
        map_pages(s, p, 1)
        map_pages(s, p, 2, source=("file", "f"), rights="none", at=3)
        write(s, p, 1, 9)
        flag(s, p, 0, 1, stay=True)
        want = (((0, 1, "rw", False, None, None, ("stay",)), (3, 2, "none", False, ("file", "f"), 0, ())),
                ((0, (0, 9, 0, 0)), (3, ONES), (4, None)))
        self.assertEqual(picture(s, p), want)
        self.assertEqual(increment(s, p, 0), want)
        self.assertEqual(increment(s, p, now(s)), (want[0], ()))
        self.assertEqual(increment(s, p, now(s) - 2), (want[0], want[1][:1]))

    def test_a_picture_does_not_change(self):
        before = picture(self.s, self.p)
        told = repr(before)
        self.write(0, 8, 12)
        fresh(self.s, self.p)
        self.assertEqual(repr(before), told)

    def test_an_increment_has_the_changed_pages(self):
        since = now(self.s)
        self.write(9, 0)
        unmap(self.s, self.p, 3, 1)
        told = increment(self.s, self.p, since)
        self.assertEqual(told, (tuple(regions(self.s, self.p)), ((0, (1, 0, 0, 0)), (5, (1, 0, 0, 0)), (9, (1, 0, 0, 0)))))

    def test_compose(self):
        one = (((0, 3, "rw", False, None, None, ()),), ((0, ZEROS), (1, ONES), (2, ZEROS)))
        other = (((1, 3, "r", False, None, None, ()), (9, 1, "r", False, None, None, ())), ((3, ONES), (1, ZEROS)))
        self.assertEqual(compose(one, other), (other[0], ((1, ZEROS), (2, ZEROS), (3, ONES))))
        self.assertEqual(compose(other, one), (one[0], ((0, ZEROS), (1, ONES), (2, ZEROS))))
        self.assertEqual(compose(((), ()), ((), ())), ((), ()))
        self.assertEqual(compose(one, ((), ())), ((), ()))
        self.assertEqual(compose(one, (((0, 9, "r", False, None, None, ()),), ())),
                         (((0, 9, "r", False, None, None, ()),), one[1]))
        self.assertEqual(compose(one, (one[0], ((2, None),)))[1], ((0, ZEROS), (1, ONES), (2, None)))

    def later(self):
        """Steps of all sorts, each with a picture before it."""
        for step, args, named in (
                (write, (self.p, 0, 5), {}), (write, (self.p, 21, 5), {}), (write_page, ("f", 2, ONES), {}),
                (move, (self.p, 2, 2, 30), {}), (truncate, ("f", 1), {}), (drop, (self.p, 0, 2), {}),
                (write, (self.p, 52, 1), {}), (unmap, (self.p, 5, 1), {}), (map_pages, (self.p, 3), {"at": 6}),
                (truncate, ("f", 3), {}), (lock, (self.p, 0, 2), {}), (merge, (), {}), (write, (self.p, 4, 8), {}),
                (protect, (self.p, 6, 2, "none"), {}), (flag, (self.p, 6, 6), {"wipe": True}), (drop_cache, (), {}),
                (map_pages, (self.p, 2), {"at": 14, "shared": True}), (fresh, (self.p,), {}),
                (map_pages, (self.p, 4), {"source": ("file", "f")})):
            step(self.s, *args, **named)
            yield

    def test_an_increment_on_a_picture_is_the_later_picture(self):
        pictures = [(now(self.s), picture(self.s, self.p))]
        for _ in self.later():
            for since, old in pictures:
                self.assertEqual(compose(old, increment(self.s, self.p, since)), picture(self.s, self.p))
            pictures.append((now(self.s), picture(self.s, self.p)))
        self.assertEqual(len(pictures), 20)

    def test_increments_one_after_the_other(self):
        first = picture(self.s, self.p)
        since = start = now(self.s)
        told = first
        joined = None
        for _ in self.later():
            step = increment(self.s, self.p, since)
            told = compose(told, step)
            joined = step if joined is None else compose(joined, step)
            since = now(self.s)
            self.assertEqual(told, picture(self.s, self.p))
            self.assertEqual(compose(first, joined), told)
        self.assertEqual(joined[0], increment(self.s, self.p, start)[0])

    def test_a_child_on_its_parent(self):
        self.write(0, 4)
        flag(self.s, self.p, 1, 5, wipe=True)
        flag(self.s, self.p, 3, 1, stay=True)
        since = now(self.s)
        old = picture(self.s, self.p)
        self.write(0)
        self.write(8)
        c = fork(self.s, self.p)
        d = fork(self.s, c)
        write(self.s, c, 4, 7)
        self.write(1, 9)
        write(self.s, d, 48, 7)
        unmap(self.s, d, 2, 1)
        for process in (self.p, c, d):
            self.assertEqual(compose(old, increment(self.s, process, since)), picture(self.s, process))

    def test_a_restored_process(self):
        since = now(self.s)
        self.write(0)
        made = restore(self.s, family(self.s, (self.p,)))[0]
        self.assertEqual(increment(self.s, made, since), picture(self.s, made))
        since = now(self.s)
        old = picture(self.s, made)
        write(self.s, made, 4, 1)
        write(self.s, made, 48, 1)
        self.assertEqual(changed(self.s, made, since), [1, 12])
        self.assertEqual(compose(old, increment(self.s, made, since)), picture(self.s, made))


if __name__ == "__main__":
    unittest.main()
