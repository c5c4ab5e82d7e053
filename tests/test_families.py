"""Families, made again in this or another system (11.1)."""

import unittest

from pageclass.access import need, read, write
from pageclass.charges import charge
from pageclass.exits import exits_for, frees, share
from pageclass.families import family, restore
from pageclass.files import create, crash, disk, drop_cache, truncate, write_page
from pageclass.locks import lock
from pageclass.memory import counts, in_memory
from pageclass.merging import merge
from pageclass.pictures import changed, origin, picture, stamp
from pageclass.positions import at_position, distances, least_slots, position, working
from pageclass.sharing import count, next_write, same, users
from pageclass.spaces import flag, map_pages, protect, regions, unmap
from pageclass.systems import System, fork, fresh, leave, now, processes, spawn
from support import ODD, kept, refuses, snapshot

ZEROS = (0, 0, 0, 0)
ONES = (1, 1, 1, 1)


class Case(unittest.TestCase):

    def setUp(self):
        self.s = System()
        self.p = spawn(self.s)

    def write(self, process, *numbers):
        for number in numbers:
            write(self.s, process, 4 * number, 10 * process + number)

    def other(self, *files, **named):
        """Another system with files of three pages."""
        t = System(**named)
        for name in files:
            create(t, name, 3)
        return t


class Family(Case):

    def test_wrong_arguments(self):
        fork(self.s, self.p)
        for some in ODD + (None, 1, [1], [], {}):
            if not isinstance(some, tuple):
                refuses(self, self.s, "NoProcess", some, family, some)
        for process in ODD + (None, 0, 3, 10 ** 3000):
            refuses(self, self.s, "NoProcess", process, family, (1, process, 9))
        refuses(self, self.s, "NoProcess", 1, family, (1, 2, 1))
        refuses(self, self.s, "NoProcess", 2, family, (2, 2, 3))

    def test_it_changes_nothing(self):
        map_pages(self.s, self.p, 3)
        self.write(self.p, 0)
        before = snapshot(self.s)
        told = family(self.s, (self.p,))
        self.assertEqual(snapshot(self.s), before)
        self.assertNotIsInstance(told, dict)

    def test_it_does_not_change_with_the_system(self):
        create(self.s, "f", 3)
        map_pages(self.s, self.p, 3)
        map_pages(self.s, self.p, 2, shared=True)
        self.write(self.p, 0, 3)
        old = picture(self.s, self.p)
        told = family(self.s, (self.p,))
        self.write(self.p, 0, 1, 2, 4)
        write(self.s, self.p, 1, 99)
        write(self.s, self.p, 13, 99)
        lock(self.s, self.p, 1, 1)
        flag(self.s, self.p, 0, 1, merge=True)
        protect(self.s, self.p, 2, 1, "r")
        map_pages(self.s, self.p, 1, source=("file", "f"), at=9)
        for t in (self.s, System()):
            made = restore(t, told)[0]
            number = 2 if t is self.s else 1
            self.assertEqual(regions(t, made), [(0, 3, "rw", False, None, None, ()),
                                                (3, 2, "rw", True, ("object", number), 0, ())])
            self.assertEqual(picture(t, made)[1], old[1])
        fresh(self.s, self.p)
        leave(self.s, self.p)
        crash(self.s)
        made = restore(self.s, told)[0]
        self.assertEqual(picture(self.s, made)[1], old[1])

    def test_it_does_not_change_with_what_was_restored(self):
        map_pages(self.s, self.p, 1)
        map_pages(self.s, self.p, 1, shared=True)
        self.write(self.p, 0, 1)
        told = family(self.s, (self.p,))
        t = System()
        for k in range(1, 5):
            made = restore(t, told)
            self.assertEqual(made, [k])
            self.assertEqual([read(t, k, 0), read(t, k, 4), stamp(t, (k, 0))], [10, 11, now(t) - 2])
            write(t, k, 0, 77)
            write(t, k, 4, 78)
            flag(t, k, 0, 2, stay=True)


class Restore(Case):

    def test_no_process(self):
        told = family(self.s, ())
        before = now(self.s)
        self.assertEqual((restore(self.s, told), now(self.s), processes(self.s)), ([], before + 1, [self.p]))
        self.assertEqual(restore(System(frames=1, slots=0, strict=True), told), [])
        self.assertEqual(spawn(self.s), self.p + 1)

    def test_a_process_without_pages(self):
        made = restore(self.s, family(self.s, (self.p,)))
        self.assertEqual((made, regions(self.s, made[0]), processes(self.s)), ([2], [], [1, 2]))

    def test_the_numbers_go_in_the_order_of_the_family(self):
        others = [spawn(self.s) for _ in range(3)]
        for number, process in enumerate(others):
            map_pages(self.s, process, 1, at=number)
        leave(self.s, self.p)
        made = restore(self.s, family(self.s, (4, 2, 3)))
        self.assertEqual((made, [regions(self.s, process)[0][0] for process in made]), ([5, 6, 7], [2, 0, 1]))
        self.assertEqual(restore(self.other(), family(self.s, (7, 3))), [1, 2])

    def test_attributes(self):
        create(self.s, "f", 3)
        map_pages(self.s, self.p, 2, rights="r")
        map_pages(self.s, self.p, 2, source=("file", "f"), index=5, at=100)
        map_pages(self.s, self.p, 2, source=("file", "f"), index=1, shared=True, rights="none", at=200)
        map_pages(self.s, self.p, 3, at=300)
        flag(self.s, self.p, 300, 2, merge=True, stay=True, wipe=True)
        flag(self.s, self.p, 200, 1, wipe=True)
        before = regions(self.s, self.p)
        lock(self.s, self.p, 301, 2)
        for t in (self.s, self.other("f")):
            made = restore(t, family(self.s, (self.p,)))[0]
            self.assertEqual(regions(t, made), before)
            self.assertEqual(picture(t, made)[1], picture(self.s, self.p)[1])

    def test_classes_that_are_shared(self):
        map_pages(self.s, self.p, 3)
        self.write(self.p, 0, 1, 2)
        c = fork(self.s, self.p)
        d = fork(self.s, self.p)
        self.write(c, 1)
        self.write(d, 2)
        flag(self.s, d, 0, 1, merge=True)
        for some in ((1, 2, 3), (3, 1), (2,), (3, 2)):
            for t in (self.s, System()):
                made = restore(t, family(self.s, some))
                old = [(process, number) for process in some for number in range(3)]
                new = [(process, number) for process in made for number in range(3)]
                for one, new_one in zip(old, new):
                    self.assertEqual([same(t, new_one, place) for place in new], [same(self.s, one, place) for place in old])
                    self.assertEqual([same(self.s, one, place) for place in new] if t is self.s else [False],
                                     [False] * len(new if t is self.s else [0]))
                    self.assertEqual(next_write(t, new_one), "copy" if len(users(t, new_one)) > 1 else "place")

    def test_objects(self):
        for at, index in ((0, 0), (10, 0)):
            map_pages(self.s, self.p, 3, shared=True, at=at, index=index)
        c = spawn(self.s)
        map_pages(self.s, c, 2, shared=True, source=("object", 2), index=1, at=5)
        map_pages(self.s, c, 1, shared=True, at=8)
        self.write(self.p, 0, 11)
        self.write(c, 6, 8)
        made = restore(self.s, family(self.s, (c, self.p)))
        self.assertEqual([[region[4:6] for region in regions(self.s, process)] for process in made],
                         [[(("object", 4), 1), (("object", 5), 0)], [(("object", 6), 0), (("object", 4), 0)]])
        self.assertEqual([picture(self.s, process)[1] for process in made],
                         [picture(self.s, process)[1] for process in (c, self.p)])
        self.assertEqual(users(self.s, (made[0], 5)), [(made[0], 5), (made[1], 11)])
        self.assertEqual(users(self.s, (c, 5)), [(self.p, 11), (c, 5)])
        write(self.s, made[0], 25, 3)
        self.assertEqual((read(self.s, made[1], 49), read(self.s, c, 25)), (3, 0))

    def test_unwritten_object_pages_are_shared_too(self):
        map_pages(self.s, self.p, 2, shared=True)
        fork(self.s, self.p)
        one, other = restore(self.s, family(self.s, (1, 2)))
        self.assertEqual((count(self.s), distances(self.s), same(self.s, (one, 0), (other, 0))), ((0, 0, 0), [], False))
        write(self.s, one, 4, 5)
        self.assertEqual((read(self.s, other, 4), read(self.s, 1, 4)), (5, 0))

    def test_object_pages_that_the_family_did_not_show(self):
        map_pages(self.s, self.p, 2, shared=True)
        c = fork(self.s, self.p)
        self.write(self.p, 0, 1)
        unmap(self.s, c, 0, 1)
        made = restore(self.s, family(self.s, (c,)))[0]
        self.assertEqual(count(self.s), (0, 3, 0))
        map_pages(self.s, made, 2, shared=True, source=("object", 2), at=0)
        self.assertEqual([read(self.s, made, 4 * number) for number in range(2)], [0, 11])

    def test_objects_go_on_behind_the_new_ones(self):
        for _ in range(3):
            map_pages(self.s, self.p, 1, shared=True)
        unmap(self.s, self.p, 1, 1)
        made = restore(self.s, family(self.s, (self.p,)))[0]
        self.assertEqual([region[4] for region in regions(self.s, made)], [("object", 4), ("object", 5)])
        map_pages(self.s, made, 1, shared=True)
        self.assertEqual([region[4] for region in regions(self.s, made)], [("object", 4), ("object", 6), ("object", 5)])

    def test_a_file_as_it_is_now(self):
        create(self.s, "f", 3)
        map_pages(self.s, self.p, 3, source=("file", "f"))
        map_pages(self.s, self.p, 3, source=("file", "f"), shared=True)
        self.write(self.p, 1, 5)
        told = family(self.s, (self.p,))
        t = self.other()
        create(t, "f", 1)
        write_page(t, "f", 0, ONES)
        made = restore(t, told)[0]
        self.assertEqual(picture(t, made)[1],
                         ((0, ONES), (1, (11, 0, 0, 0)), (2, None), (3, ONES), (4, None), (5, None)))
        truncate(t, "f", 3)
        self.assertEqual(picture(t, made)[1][2], (2, ZEROS))
        truncate(self.s, "f", 64)
        write_page(self.s, "f", 2, ONES)
        made = restore(self.s, told)[0]
        self.assertEqual([content for _, content in picture(self.s, made)[1]],
                         [ZEROS, (11, 0, 0, 0), ONES, ZEROS, ZEROS, ONES])

    def test_files_that_do_not_exist(self):
        for name in ("b", "d", "a", "c"):
            create(self.s, name, 1)
        map_pages(self.s, self.p, 1, source=("file", "d"))
        map_pages(self.s, self.p, 1, source=("file", "c"), shared=True)
        q = spawn(self.s)
        map_pages(self.s, q, 1, source=("file", "b"), index=9)
        write(self.s, self.p, 0, 1)
        told = family(self.s, (self.p, q))
        for files, missing in (((), "b"), (("d", "c", "a"), "b"), (("b", "c"), "d"), (("b", "d"), "c")):
            for named in ({}, {"frames": 1, "slots": 0}, {"frames": 1, "slots": 0, "strict": True}):
                refuses(self, self.other(*files, **named), "NoFile", missing, restore, told)
        self.assertEqual(restore(self.other("b", "c", "d"), told), [1, 2])

    def test_stamps_and_origins(self):
        create(self.s, "f", 3)
        map_pages(self.s, self.p, 2)
        map_pages(self.s, self.p, 2, shared=True)
        map_pages(self.s, self.p, 2, source=("file", "f"))
        self.write(self.p, 0, 2, 4)
        write_page(self.s, "f", 1, ONES)
        written = now(self.s)
        made = restore(self.s, family(self.s, (self.p,)))[0]
        at = now(self.s)
        self.assertEqual([stamp(self.s, (made, number)) for number in range(6)], [at] * 6)
        self.assertEqual([origin(self.s, (made, number)) for number in range(6)], [at, None, at, None, at, written])
        self.assertEqual((changed(self.s, made, at - 1), changed(self.s, made, at)), (list(range(6)), []))

    def test_what_is_touched(self):
        create(self.s, "f", 3)
        map_pages(self.s, self.p, 2, at=4)
        map_pages(self.s, self.p, 2, shared=True, at=1)
        map_pages(self.s, self.p, 2, source=("file", "f"), at=8)
        q = fork(self.s, self.p)
        for number in (4, 5, 2, 1, 8):
            self.write(self.p, number)
        self.write(q, 9)
        r = fork(self.s, self.p)
        before = len(distances(self.s))
        made = restore(self.s, family(self.s, (r, self.p, q)))
        one, other, last = made
        self.assertEqual(distances(self.s)[before:], [None] * 6)
        self.assertEqual([at_position(self.s, number) for number in range(6, 0, -1)],
                         [("object", 2, 0), ("object", 2, 1), ("private", [(one, 4), (other, 4)]),
                          ("private", [(one, 5), (other, 5)]), ("private", [(one, 8), (other, 8)]),
                          ("private", [(last, 9)])])
        self.assertEqual(working(self.s, 6), 6)

    def test_locked_pages_stay_ahead(self):
        map_pages(self.s, self.p, 2)
        self.write(self.p, 1)
        lock(self.s, self.p, 0, 1)
        made = restore(self.s, family(self.s, (self.p,)))[0]
        self.assertEqual([position(self.s, place) for place in ((self.p, 0), (made, 1), (made, 0), (self.p, 1))],
                         [1, 2, 3, 4])
        self.assertEqual(regions(self.s, made), [(0, 2, "rw", False, None, None, ())])

    def test_slots_behind_each_touch(self):
        map_pages(self.s, self.p, 4)
        self.write(self.p, 0, 1, 2, 3)
        told = family(self.s, (self.p,))
        t = self.other("f", frames=2)
        write_page(t, "f", 0, ONES)
        made = restore(t, told)[0]
        self.assertEqual([in_memory(t, (made, number)) for number in range(4)], [False, False, True, True])
        self.assertEqual((counts(t), disk(t, "f")[0]), ({"faults": 0, "swap_outs": 2, "write_backs": 1}, ONES))
        self.assertEqual([least_slots(t, frames) for frames in (1, 2, 3, 4)], [3, 2, 1, 0])


class Limits(Case):

    def setUp(self):
        """A family of two processes: charge 8, three classes."""
        Case.setUp(self)
        map_pages(self.s, self.p, 3)
        map_pages(self.s, self.p, 2, shared=True)
        self.write(self.p, 0, 1, 3)
        self.q = fork(self.s, self.p)
        self.told = family(self.s, (self.p, self.q))

    def test_no_room(self):
        for frames, slots in ((1, 1), (2, 0), (1, 0)):
            refuses(self, self.other(frames=frames, slots=slots), "NoRoom", None, restore, self.told)
        for frames, slots in ((1, 2), (3, 0), (2, 1), (64, 256)):
            t = self.other(frames=frames, slots=slots)
            self.assertEqual((restore(t, self.told), kept(t)), ([1, 2], 3))

    def test_no_room_beside_what_there_is(self):
        t = self.other(frames=2, slots=4)
        restore(t, self.told)
        restore(t, self.told)
        refuses(self, t, "NoRoom", None, restore, self.told)
        leave(t, 1)
        refuses(self, t, "NoRoom", None, restore, self.told)
        leave(t, 2)
        self.assertEqual(restore(t, self.told), [5, 6])

    def test_no_charge(self):
        self.assertEqual(charge(self.s), 8)
        for frames, slots in ((1, 0), (4, 3), (1, 6)):
            refuses(self, self.other(frames=frames, slots=slots, strict=True), "NoCharge", None, restore, self.told)
        t = self.other(frames=4, slots=4, strict=True)
        self.assertEqual((restore(t, self.told), charge(t)), ([1, 2], 8))
        refuses(self, t, "NoCharge", None, restore, self.told)
        self.assertEqual(restore(t, family(t, ())), [])
        for process in (1, 2):
            for number in range(5):
                write(t, process, 4 * number, 1)
        self.assertEqual(kept(t), 8)

    def test_a_charge_that_does_not_grow(self):
        t = self.other(frames=1, slots=0, strict=True)
        map_pages(t, spawn(t), 1)
        q = spawn(self.s)
        map_pages(self.s, q, 4, rights="r")
        map_pages(self.s, q, 4, rights="r", shared=True)
        self.assertEqual(restore(t, family(self.s, (q,))), [2])
        write(self.s, self.p, 12, 1)
        protect(self.s, self.p, 3, 1, "r")
        map_pages(self.s, q, 1, rights="r", shared=True, source=("object", 1))
        refuses(self, t, "NoCharge", None, restore, family(self.s, (q,)))

    def test_the_charge_by_the_file_as_it_is_now(self):
        create(self.s, "f", 3)
        q = spawn(self.s)
        map_pages(self.s, q, 3, source=("file", "f"))
        told = family(self.s, (q,))
        t = self.other("f", frames=1, slots=1, strict=True)
        refuses(self, t, "NoCharge", None, restore, told)
        truncate(t, "f", 2)
        made = restore(t, told)[0]
        self.assertEqual(charge(t), 2)
        refuses(self, t, "NoCharge", None, truncate, "f", 3)
        write(t, made, 0, 1)
        write(t, made, 4, 1)


class GoingOn(Case):
    """A restored family goes on as the family does."""

    def test_alike(self):
        create(self.s, "f", 3)
        map_pages(self.s, self.p, 4)
        map_pages(self.s, self.p, 2, shared=True)
        map_pages(self.s, self.p, 2, source=("file", "f"))
        flag(self.s, self.p, 0, 3, merge=True)
        self.write(self.p, 0, 1, 4, 6)
        q = fork(self.s, self.p)
        self.write(q, 1)
        told = family(self.s, (self.p, q))
        t = self.other("f", frames=3)
        answers = []
        for system, made in ((self.s, [self.p, q]), (t, restore(t, told))):
            r = fork(system, made[1])
            for process in (made[1], r, made[0]):
                for number in (0, 4, 5, 6, 7):
                    write(system, process, 4 * number, number)
                need(system, process, 0, 8)
            write(system, made[0], 4, read(system, made[1], 4))
            answers.append((merge(system), count(system), charge(system), [share(system, process) for process in made],
                            [picture(system, process)[1] for process in made + [r]],
                            [users(system, (made[0], number)) for number in range(8)], frees(system, (r,)),
                            exits_for(system, 3)))
        self.assertEqual(answers[0], answers[1])

    def test_a_family_of_a_restored_family(self):
        map_pages(self.s, self.p, 2)
        map_pages(self.s, self.p, 1, shared=True)
        self.write(self.p, 0, 2)
        fork(self.s, self.p)
        t = System()
        one = restore(t, family(self.s, (1, 2)))
        other = restore(self.s, family(t, tuple(one)))
        self.assertEqual([picture(self.s, process)[1] for process in other],
                         [picture(self.s, process)[1] for process in (1, 2)])
        self.assertEqual(count(self.s), (2, 2, 0))
        drop_cache(self.s)

    def test_twelve_processes(self):
        map_pages(self.s, self.p, 2)
        self.write(self.p, 0)
        for _ in range(11):
            fork(self.s, self.p)
        t = System()
        made = restore(t, family(self.s, tuple(range(12, 0, -1))))
        self.assertEqual((made, count(t), charge(t)), (list(range(1, 13)), (1, 0, 0), 24))


if __name__ == "__main__":
    unittest.main()
