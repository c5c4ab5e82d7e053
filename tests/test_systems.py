"""Systems, processes, forks, and the numbers of steps (0.4, 1.1, 1.5)."""

import unittest

from pageclass.access import drop, need, read, write
from pageclass.errors import NoSystem
from pageclass.locks import lock
from pageclass.spaces import flag, gap, map_pages, move, protect, regions, unmap, widest
from pageclass.systems import System, fork, fresh, leave, now, processes, spawn
from support import ODD, cells, kept, refuses, refuses_process


class Parameters(unittest.TestCase):

    def refused(self, part, **named):
        with self.assertRaises(NoSystem) as caught:
            System(**named)
        self.assertEqual(caught.exception.part, part)

    def test_the_bounds(self):
        for frames in (None, 1, 2, 64):
            for slots in (None, 0, 1, 256):
                for strict in (False, True):
                    if not strict or frames is not None and slots is not None:
                        self.assertEqual(processes(System(frames=frames, slots=slots, strict=strict)), [])

    def test_frames(self):
        for frames in ODD + (0, -1, 65, 10 ** 30, -10 ** 30):
            self.refused("frames", frames=frames)
            self.refused("frames", frames=frames, slots=1)
            self.refused("frames", frames=frames, slots=-1, strict=7)
            self.refused("frames", frames=frames, slots=None, strict=True)

    def test_slots(self):
        for slots in ODD + (-1, 257, 10 ** 30, -10 ** 30):
            self.refused("slots", slots=slots)
            self.refused("slots", slots=slots, frames=1)
            self.refused("slots", slots=slots, frames=64, strict=None)
            self.refused("slots", slots=slots, frames=None, strict=True)

    def test_strict(self):
        for strict in ODD + (None, 0, 1, 10 ** 30):
            if not isinstance(strict, bool):
                self.refused("strict", strict=strict)
                self.refused("strict", strict=strict, frames=1, slots=0)

    def test_strict_needs_frames_and_slots(self):
        self.refused("strict", strict=True)
        self.refused("strict", strict=True, frames=1)
        self.refused("strict", strict=True, slots=1)
        System(strict=False, frames=1)
        System(strict=False, slots=1)

    def test_no_arguments_by_position(self):
        with self.assertRaises(TypeError):
            System(1)

    def test_systems_are_apart(self):
        one, other = System(), System()
        spawn(one)
        self.assertEqual((processes(one), processes(other), now(other)), ([1], [], 0))


class Processes(unittest.TestCase):

    def setUp(self):
        self.s = System()

    def test_numbers_in_the_order_of_making(self):
        self.assertEqual([spawn(self.s), spawn(self.s), fork(self.s, 1), spawn(self.s)], [1, 2, 3, 4])
        self.assertEqual(processes(self.s), [1, 2, 3, 4])
        self.assertEqual([regions(self.s, p) for p in (1, 2, 3, 4)], [[]] * 4)

    def test_a_number_is_never_used_again(self):
        for number in (1, 2, 3):
            self.assertEqual(spawn(self.s), number)
            self.assertIsNone(leave(self.s, number))
            self.assertEqual(processes(self.s), [])
        self.assertEqual(spawn(self.s), 4)
        leave(self.s, fork(self.s, 4))
        self.assertEqual(fork(self.s, 4), 6)
        self.assertEqual(processes(self.s), [4, 6])

    def test_a_step_that_raises_uses_no_number(self):
        s = System(frames=1, slots=0, strict=True)
        p = spawn(s)
        map_pages(s, p, 1)
        refuses(self, s, "NoCharge", None, fork, p)
        refuses(self, s, "NoProcess", 2, fork, 2)
        self.assertEqual(spawn(s), 2)
        unmap(s, p, 0, 1)
        self.assertEqual(fork(s, p), 3)

    def test_twelve_live_at_once_and_more_raise_nothing(self):
        self.assertEqual([spawn(self.s) for _ in range(14)], list(range(1, 15)))
        self.assertEqual(processes(self.s), list(range(1, 15)))

    def test_the_list_belongs_to_the_caller(self):
        spawn(self.s)
        processes(self.s).append(9)
        self.assertEqual(processes(self.s), [1])

    def test_leave_and_fresh(self):
        p = spawn(self.s)
        map_pages(self.s, p, 512)
        write(self.s, p, 5, 7)
        c = fork(self.s, p)
        self.assertIsNone(fresh(self.s, p))
        self.assertEqual(regions(self.s, p), [])
        self.assertEqual(widest(self.s, p), 512)
        self.assertEqual(read(self.s, c, 5), 7)
        self.assertIsNone(fresh(self.s, p))
        leave(self.s, c)
        self.assertEqual(processes(self.s), [p])
        self.assertEqual(kept(self.s), 0)
        map_pages(self.s, p, 2)
        self.assertEqual(read(self.s, p, 5), 0)

    def test_leave_and_fresh_take_locked_pages_away(self):
        for step in (leave, fresh):
            p = spawn(self.s)
            map_pages(self.s, p, 1)
            write(self.s, p, 0, 1)
            lock(self.s, p, 0, 1)
            step(self.s, p)
            self.assertEqual(kept(self.s), 0)

    def test_no_process(self):
        p = spawn(self.s)
        dead = spawn(self.s)
        leave(self.s, dead)
        for step, args in ((fork, ()), (leave, ()), (fresh, ()), (regions, ()), (widest, ()), (gap, (0,)),
                           (map_pages, (0,)), (unmap, (-1, 0)), (protect, (-1, 0, "x")), (flag, (-1, 0)),
                           (move, (-1, 0, -1)), (read, (-1,)), (write, (-1, -1)), (need, (-1, 0)), (drop, (-1, 0))):
            refuses_process(self, self.s, step, *args)
            refuses(self, self.s, "NoProcess", dead, step, dead, *args)
        self.assertEqual(processes(self.s), [p])


class Steps(unittest.TestCase):

    def test_each_step_has_a_number(self):
        s = System()
        self.assertEqual(now(s), 0)
        steps = ((spawn,), (map_pages, 1, 4), (read, 1, 0), (write, 1, 0, 1), (need, 1, 0, 4), (drop, 1, 0, 1),
                 (protect, 1, 1, 1, "r"), (flag, 1, 0, 1), (move, 1, 0, 1, 9), (unmap, 1, 0, 1), (fork, 1),
                 (fresh, 1), (leave, 1))
        for number, (step, *args) in enumerate(steps, 1):
            step(s, *args)
            self.assertEqual(now(s), number)

    def test_steps_without_a_result(self):
        s = System()
        p = spawn(s)
        map_pages(s, p, 4)
        for step, *args in ((write, p, 0, 1), (need, p, 0, 4), (drop, p, 0, 1), (protect, p, 1, 1, "r"),
                            (flag, p, 0, 1), (move, p, 0, 1, 9), (unmap, p, 0, 1), (fresh, p), (leave, p)):
            self.assertIsNone(step(s, *args))

    def test_questions_have_none(self):
        s = System()
        p = spawn(s)
        for question in (lambda: now(s), lambda: processes(s), lambda: regions(s, p), lambda: gap(s, p, 1),
                         lambda: widest(s, p)):
            self.assertEqual(question(), question())
            self.assertEqual(now(s), 1)

    def test_a_step_that_raises_has_none(self):
        s = System()
        p = spawn(s)
        refuses(self, s, "NotMapped", 0, read, p, 0)
        self.assertEqual(now(s), 1)
        map_pages(s, p, 1)
        self.assertEqual(now(s), 2)


class Forks(unittest.TestCase):

    def setUp(self):
        self.s = System()
        self.p = spawn(self.s)

    def test_the_child_has_the_pages_with_their_attributes(self):
        map_pages(self.s, self.p, 2, rights="r")
        map_pages(self.s, self.p, 2, shared=True, at=10)
        map_pages(self.s, self.p, 1, rights="none", at=511)
        flag(self.s, self.p, 0, 1, merge=True, wipe=True)
        flag(self.s, self.p, 10, 1, wipe=True)
        before = regions(self.s, self.p)
        c = fork(self.s, self.p)
        self.assertEqual(regions(self.s, c), before)
        self.assertEqual(regions(self.s, self.p), before)

    def test_no_copy_is_made(self):
        map_pages(self.s, self.p, 2)
        write(self.s, self.p, 1, 5)
        c = fork(self.s, self.p)
        self.assertEqual(kept(self.s), 1)
        self.assertEqual([read(self.s, c, a) for a in (0, 1, 4)], [0, 5, 0])

    def test_writes_behind_a_fork_are_not_seen_by_the_other(self):
        map_pages(self.s, self.p, 2)
        write(self.s, self.p, 1, 5)
        c = fork(self.s, self.p)
        write(self.s, self.p, 0, 1)
        write(self.s, c, 0, 2)
        write(self.s, c, 4, 3)
        self.assertEqual([cells(self.s, self.p, k) for k in (0, 1)], [(1, 5, 0, 0), (0, 0, 0, 0)])
        self.assertEqual([cells(self.s, c, k) for k in (0, 1)], [(2, 5, 0, 0), (3, 0, 0, 0)])

    def test_a_grandchild(self):
        map_pages(self.s, self.p, 1)
        write(self.s, self.p, 0, 1)
        c = fork(self.s, self.p)
        g = fork(self.s, c)
        leave(self.s, self.p)
        write(self.s, g, 1, 2)
        leave(self.s, g)
        self.assertEqual(cells(self.s, c, 0), (1, 0, 0, 0))

    def test_stay(self):
        map_pages(self.s, self.p, 3)
        map_pages(self.s, self.p, 2, shared=True, at=5)
        write(self.s, self.p, 4, 9)
        flag(self.s, self.p, 1, 1, stay=True)
        flag(self.s, self.p, 5, 1, stay=True)
        c = fork(self.s, self.p)
        self.assertEqual(regions(self.s, c), [(0, 1, "rw", False, None, None, ()), (2, 1, "rw", False, None, None, ()),
                                              (6, 1, "rw", True, ("object", 1), 1, ())])
        self.assertEqual(read(self.s, self.p, 4), 9)
        refuses(self, self.s, "NotMapped", 1, read, c, 4)

    def test_stay_and_wipe_together(self):
        map_pages(self.s, self.p, 1)
        flag(self.s, self.p, 0, 1, stay=True, wipe=True)
        self.assertEqual(regions(self.s, fork(self.s, self.p)), [])

    def test_wipe_of_a_private_page(self):
        map_pages(self.s, self.p, 2)
        write(self.s, self.p, 0, 9)
        flag(self.s, self.p, 0, 2, wipe=True)
        c = fork(self.s, self.p)
        self.assertEqual([read(self.s, self.p, 0), read(self.s, c, 0), read(self.s, c, 4)], [9, 0, 0])
        self.assertEqual(regions(self.s, c), [(0, 2, "rw", False, None, None, ("wipe",))])
        write(self.s, self.p, 0, 8)
        self.assertEqual(kept(self.s), 1)

    def test_wipe_of_a_shared_page_means_nothing(self):
        map_pages(self.s, self.p, 1, shared=True)
        write(self.s, self.p, 0, 9)
        flag(self.s, self.p, 0, 1, wipe=True)
        c = fork(self.s, self.p)
        self.assertEqual(read(self.s, c, 0), 9)
        write(self.s, c, 0, 8)
        self.assertEqual(read(self.s, self.p, 0), 8)

    def test_without_lock(self):
        map_pages(self.s, self.p, 1)
        write(self.s, self.p, 0, 9)
        flag(self.s, self.p, 0, 1, merge=True, wipe=True)
        lock(self.s, self.p, 0, 1)
        c = fork(self.s, self.p)
        self.assertEqual(regions(self.s, c)[0][6], ("merge", "wipe"))
        self.assertEqual(regions(self.s, self.p)[0][6], ("lock", "merge", "wipe"))

    def test_a_fork_of_512_pages(self):
        map_pages(self.s, self.p, 512)
        c = fork(self.s, self.p)
        self.assertEqual(regions(self.s, c), [(0, 512, "rw", False, None, None, ())])


if __name__ == "__main__":
    unittest.main()
