"""Shares, and what exits free (6.1, 6.2)."""

import copy
import itertools
import unittest
from fractions import Fraction

from pageclass.access import write
from pageclass.charges import charge
from pageclass.exits import exits_for, frees, least_exits, share
from pageclass.files import create
from pageclass.sharing import count
from pageclass.spaces import flag, map_pages, protect, unmap
from pageclass.systems import System, fork, leave, now, processes, spawn
from support import ODD, kept, refuses, refuses_process


class Case(unittest.TestCase):

    def setUp(self):
        self.s = System()
        self.p = spawn(self.s)

    def pages(self, process, many, **named):
        """Map pages and write them all."""
        at = map_pages(self.s, process, many, **named)
        for number in range(at, at + many):
            write(self.s, process, 4 * number, 1)
        return at


class Shares(Case):

    def test_a_process_without_classes(self):
        self.assertEqual(share(self.s, self.p), (0, 1))
        create(self.s, "f", 2)
        map_pages(self.s, self.p, 2)
        map_pages(self.s, self.p, 2, shared=True)
        self.pages(self.p, 2, source=("file", "f"), shared=True)
        self.assertEqual(share(self.s, self.p), (0, 1))

    def test_classes_of_its_own(self):
        self.pages(self.p, 3)
        self.pages(self.p, 2, shared=True)
        told = share(self.s, self.p)
        self.assertEqual((type(told), told), (tuple, (5, 1)))

    def test_shared_classes(self):
        self.pages(self.p, 3)
        c = fork(self.s, self.p)
        self.assertEqual([share(self.s, self.p), share(self.s, c)], [(3, 2), (3, 2)])
        d = fork(self.s, c)
        self.assertEqual([share(self.s, process) for process in (self.p, c, d)], [(1, 1)] * 3)
        write(self.s, d, 0, 2)
        self.assertEqual([share(self.s, process) for process in (self.p, c, d)], [(7, 6), (7, 6), (5, 3)])

    def test_each_process_counts_once(self):
        self.pages(self.p, 1, shared=True)
        c = fork(self.s, self.p)
        for _ in range(3):
            map_pages(self.s, c, 1, shared=True, source=("object", 1))
        self.assertEqual([share(self.s, process) for process in (self.p, c)], [(1, 2)] * 2)

    def test_lowest_terms(self):
        self.pages(self.p, 4)
        for _ in range(5):
            fork(self.s, self.p)
        self.assertEqual(share(self.s, self.p), (2, 3))

    def test_the_rights_mean_nothing(self):
        self.pages(self.p, 1)
        c = fork(self.s, self.p)
        protect(self.s, c, 0, 1, "none")
        self.assertEqual([share(self.s, process) for process in (self.p, c)], [(1, 2)] * 2)

    def test_wherever_the_classes_are_kept(self):
        self.s = System(frames=1)
        self.p = spawn(self.s)
        self.pages(self.p, 3)
        fork(self.s, self.p)
        self.assertEqual(share(self.s, self.p), (3, 2))

    def test_twelve_processes(self):
        family = [self.p]
        for number in range(11):
            self.pages(family[-1], 1)
            family.append(fork(self.s, family[-1]))
        shares = [Fraction(*share(self.s, process)) for process in family]
        self.assertEqual(shares[0], Fraction(1, 12))
        self.assertEqual(shares[-1], sum(Fraction(1, many) for many in range(2, 13)))
        self.assertEqual(sum(shares), 11)

    def test_the_shares_add_up_to_all_classes(self):
        for number in range(7):
            self.pages(self.p, 50)
            fork(self.s, self.p)
        self.pages(self.p, 9, shared=True)
        self.assertEqual(sum(Fraction(*share(self.s, process)) for process in processes(self.s)), kept(self.s))

    def test_no_process(self):
        refuses_process(self, self.s, share)


class Frees(Case):

    def test_the_empty_tuple(self):
        self.assertEqual(frees(self.s, ()), 0)
        self.pages(self.p, 1)
        self.assertEqual(frees(self.s, ()), 0)
        self.assertEqual(frees(System(), ()), 0)

    def test_classes_of_which_all_users_leave(self):
        self.pages(self.p, 2)
        c = fork(self.s, self.p)
        self.pages(c, 3)
        d = fork(self.s, c)
        self.pages(d, 1, shared=True)
        self.assertEqual([frees(self.s, (process,)) for process in (self.p, c, d)], [0, 0, 1])
        self.assertEqual([frees(self.s, some) for some in ((c, d), (self.p, d), (d, c, self.p))], [4, 1, 6])

    def test_it_is_what_exits_free(self):
        self.pages(self.p, 2)
        c = fork(self.s, self.p)
        self.pages(c, 3, shared=True)
        write(self.s, c, 0, 2)
        d = fork(self.s, c)
        for some in ((c,), (c, d), (d, self.p)):
            told = frees(self.s, some)
            s = self.again()
            before = kept(s)
            for process in some:
                leave(s, process)
            self.assertEqual(before - kept(s), told)

    def again(self):
        """The system of test_it_is_what_exits_free once more."""
        s = System()
        p = spawn(s)
        map_pages(s, p, 2)
        write(s, p, 0, 1)
        write(s, p, 4, 1)
        c = fork(s, p)
        at = map_pages(s, c, 3, shared=True)
        for number in range(at, at + 3):
            write(s, c, 4 * number, 1)
        write(s, c, 0, 2)
        fork(s, c)
        return s

    def test_file_pages_are_no_classes(self):
        create(self.s, "f", 2)
        self.pages(self.p, 2, source=("file", "f"), shared=True)
        self.assertEqual(frees(self.s, (self.p,)), 0)

    def test_it_changes_nothing(self):
        self.pages(self.p, 2)
        number = now(self.s)
        self.assertEqual([frees(self.s, (self.p,)), frees(self.s, (self.p,))], [2, 2])
        self.assertEqual((now(self.s), processes(self.s)), (number, [self.p]))

    def test_no_tuple(self):
        for some in tuple(value for value in ODD if not isinstance(value, tuple)) + (
                None, 0, self.p, [self.p], {self.p}, {self.p: True}, 10 ** 30, range(1)):
            refuses(self, self.s, "NoProcess", some, frees, some)

    def test_no_processes(self):
        c = fork(self.s, self.p)
        dead = spawn(self.s)
        leave(self.s, dead)
        for process in ODD + (None, 0, -1, dead, 99, 10 ** 30, (self.p,)):
            for some in ((process,), (self.p, process), (self.p, c, process, process), (process, self.p, self.p)):
                refuses(self, self.s, "NoProcess", process, frees, some)

    def test_one_that_occurred_before(self):
        c = fork(self.s, self.p)
        refuses(self, self.s, "NoProcess", self.p, frees, (self.p, self.p))
        refuses(self, self.s, "NoProcess", c, frees, (self.p, c, c, self.p))
        refuses(self, self.s, "NoProcess", self.p, frees, (self.p, c, self.p, c))
        refuses(self, self.s, "NoProcess", True, frees, (self.p, True))
        refuses(self, self.s, "NoProcess", 9, frees, (self.p, 9, self.p))


class LeastExits(Case):

    def test_nothing_to_free(self):
        for question in (least_exits, exits_for):
            self.assertEqual(question(self.s, 0), ())
            self.assertIsNone(question(self.s, 1))
            self.assertEqual(question(System(), 0), ())
            self.assertIsNone(question(System(), 1))

    def test_one_process(self):
        self.pages(self.p, 3)
        self.assertEqual([least_exits(self.s, k) for k in range(5)], [()] + [(self.p,)] * 3 + [None])

    def test_the_shortest_tuple(self):
        self.pages(self.p, 2)
        b = spawn(self.s)
        self.pages(b, 1)
        c = spawn(self.s)
        self.pages(c, 3)
        self.assertEqual([least_exits(self.s, k) for k in range(8)],
                         [(), (1,), (1,), (3,), (1, 3), (1, 3), (1, 2, 3), None])

    def test_the_least_tuple(self):
        for _ in range(4):
            self.pages(spawn(self.s), 1)
        self.assertEqual([least_exits(self.s, k) for k in range(1, 6)], [(2,), (2, 3), (2, 3, 4), (2, 3, 4, 5), None])

    def test_shared_classes(self):
        self.pages(self.p, 5)
        c = fork(self.s, self.p)
        d = spawn(self.s)
        self.pages(d, 1)
        self.assertEqual([least_exits(self.s, k) for k in (1, 2, 5, 6)],
                         [(d,), (self.p, c), (self.p, c), (self.p, c, d)])

    def test_numbers_in_ascending_order(self):
        leave(self.s, self.p)
        numbers = [spawn(self.s) for _ in range(11)]
        self.assertEqual(numbers[-1], 12)
        for number in numbers[::-1]:
            self.pages(number, 1)
        self.assertEqual(least_exits(self.s, 11), tuple(numbers))
        self.assertEqual(least_exits(self.s, 2), (2, 3))

    def test_wrong_counts(self):
        self.pages(self.p, 1)
        for many in ODD + (None, -1, -10 ** 30, (0,)):
            for question in (least_exits, exits_for):
                refuses(self, self.s, "NoPages", "count", question, many)

    def test_great_counts(self):
        self.pages(self.p, 1)
        for many in (2, 513, 10 ** 30):
            for question in (least_exits, exits_for):
                self.assertIsNone(question(self.s, many))

    def test_they_change_nothing(self):
        self.pages(self.p, 1)
        number = now(self.s)
        for question in (least_exits, exits_for):
            self.assertEqual([question(self.s, 1), question(self.s, 1)], [(self.p,)] * 2)
        self.assertEqual((now(self.s), processes(self.s), count(self.s)), (number, [self.p], (1, 0, 0)))

    def test_twelve_processes(self):
        family = [self.p] + [spawn(self.s) for _ in range(11)]
        # Each two neighbours share an object with a written page.
        for number, (one, other) in enumerate(zip(family, family[1:]), 1):
            self.pages(one, 1, shared=True)
            map_pages(self.s, other, 1, shared=True, source=("object", number))
        for many in range(1, 12):
            self.assertEqual(least_exits(self.s, many), tuple(family[:many + 1]))
            self.assertEqual(exits_for(self.s, many), tuple(family[:many + 1]))
        self.assertIsNone(least_exits(self.s, 12))

    def test_twelve_processes_with_many_classes(self):
        for number in range(11):
            self.pages(self.p, 2 + number)
            fork(self.s, self.p)
        for number, process in enumerate(processes(self.s)):
            write(self.s, process, 4 * number, 2)
        living = processes(self.s)
        for wanted in (1, 2, 3, 15, 40, kept(self.s)):
            told = least_exits(self.s, wanted)
            self.assertGreaterEqual(frees(self.s, told), wanted)
            for some in itertools.combinations(living, len(told)):
                if some == told:
                    break
                self.assertLess(frees(self.s, some), wanted)
            self.assertTrue(all(frees(self.s, some) < wanted
                                for some in itertools.combinations(living, len(told) - 1)))


class ExitsFor(Case):
    """What lessens the charge (9.1)."""

    def lessens(self, *some):
        """By how much the charge is less without some processes."""
        rest = copy.deepcopy(self.s)
        for process in some:
            leave(rest, process)
        return charge(self.s) - charge(rest)

    def test_untouched_pages(self):
        create(self.s, "f", 2)
        map_pages(self.s, self.p, 2)
        map_pages(self.s, self.p, 5, rights="r")
        map_pages(self.s, self.p, 5, source=("file", "f"))
        map_pages(self.s, self.p, 5, source=("file", "f"), shared=True)
        self.assertEqual([exits_for(self.s, k) for k in (0, 1, 4, 5)], [(), (self.p,), (self.p,), None])
        self.assertIsNone(least_exits(self.s, 1))

    def test_holders_that_can_write_count_each(self):
        self.pages(self.p, 2)
        c = fork(self.s, self.p)
        self.assertEqual([exits_for(self.s, k) for k in (1, 2, 3, 4, 5)], [(1,), (1,), (1, 2), (1, 2), None])
        self.assertEqual([least_exits(self.s, k) for k in (1, 2, 3)], [(1, c), (1, c), None])

    def test_holders_that_cannot_write_count_together(self):
        self.pages(self.p, 1)
        c = fork(self.s, self.p)
        d = fork(self.s, self.p)
        protect(self.s, c, 0, 1, "r")
        protect(self.s, d, 0, 1, "none")
        self.assertEqual([self.lessens(*some) for some in ((self.p,), (c,), (d,), (c, d))], [1, 0, 0, 1])
        self.assertEqual([exits_for(self.s, k) for k in (1, 2, 3)], [(self.p,), (self.p, c, d), None])

    def test_a_written_object_page_stays_as_long_as_it_is_shown(self):
        self.pages(self.p, 1, shared=True)
        c = fork(self.s, self.p)
        protect(self.s, c, 0, 1, "none")
        self.assertEqual([exits_for(self.s, k) for k in (1, 2)], [(self.p, c), None])

    def test_an_unwritten_object_page_counts_as_long_as_it_can_be_written(self):
        map_pages(self.s, self.p, 1, shared=True)
        c = fork(self.s, self.p)
        protect(self.s, self.p, 0, 1, "r")
        self.assertEqual([exits_for(self.s, k) for k in (1, 2)], [(c,), None])
        protect(self.s, c, 0, 1, "r")
        self.assertIsNone(exits_for(self.s, 1))

    def test_an_object_page_counts_once(self):
        map_pages(self.s, self.p, 1, shared=True)
        for _ in range(3):
            map_pages(self.s, self.p, 1, shared=True, source=("object", 1))
        self.assertEqual([exits_for(self.s, k) for k in (1, 2)], [(self.p,), None])

    def test_it_is_what_exits_take_from_the_charge(self):
        self.pages(self.p, 2)
        map_pages(self.s, self.p, 2, shared=True)
        flag(self.s, self.p, 0, 1, wipe=True)
        c = fork(self.s, self.p)
        protect(self.s, c, 1, 2, "r")
        self.pages(c, 1)
        d = fork(self.s, c)
        unmap(self.s, d, 0, 1)
        living = processes(self.s)
        for wanted in range(14):
            best = [some for many in range(4) for some in itertools.combinations(living, many)
                    if self.lessens(*some) >= wanted]
            self.assertEqual(exits_for(self.s, wanted), best[0] if best else None)


if __name__ == "__main__":
    unittest.main()
