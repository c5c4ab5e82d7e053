"""Places, users, and what writes would do (5.1 to 5.4)."""

import itertools
import unittest

from pageclass.access import drop, read, write
from pageclass.files import create, read_page, truncate, write_page
from pageclass.sharing import count, next_write, same, users, writes_of
from pageclass.spaces import map_pages, move, protect, unmap
from pageclass.systems import System, fork, fresh, leave, now, spawn
from support import ODD, refuses

NO_PLACES = tuple(value for value in ODD if not isinstance(value, tuple)) + (
    None, 0, 1, 10 ** 30, "ab", [1, 0], (), (1,), (1, 0, 0), ((1, 0),), {1: 0}, ([1, 0],))


class Case(unittest.TestCase):
    """Pages 0, 1: private; 2, 3: of a file, private; 4, 5: of it, shared; 6, 7: of an object.

    3 and 5 are past the end.
    """

    def setUp(self):
        self.s = System()
        self.p = spawn(self.s)
        create(self.s, "f", 1)
        map_pages(self.s, self.p, 2)
        map_pages(self.s, self.p, 2, source=("file", "f"))
        map_pages(self.s, self.p, 2, source=("file", "f"), shared=True)
        map_pages(self.s, self.p, 2, shared=True)

    def write(self, process, *numbers):
        for number in numbers:
            write(self.s, process, 4 * number, 1)

    def users(self, process, number):
        return users(self.s, (process, number))

    def next(self, process, *numbers):
        return [next_write(self.s, (process, number)) for number in numbers]

    def writes(self, *places):
        return writes_of(self.s, list(places))


class Places(Case):
    """What is no place (5.1)."""

    def test_no_tuple_of_two(self):
        for place in NO_PLACES:
            self.refused("NotMapped", place, place)

    def test_no_process(self):
        dead = spawn(self.s)
        leave(self.s, dead)
        for process in ODD + (None, 0, -1, dead, 3, 10 ** 30):
            for number in (0, 512, None, []):
                self.refused("NoProcess", process, (process, number))

    def test_not_mapped(self):
        for number in ODD + (None, -1, 8, 511, 512, 10 ** 30, (self.p, 0)):
            self.refused("NotMapped", number, (self.p, number))

    def refused(self, error, value, place):
        for question in (users, next_write):
            refuses(self, self.s, error, value, question, place)
        for other in ((self.p, 0), (9, 0), None):
            refuses(self, self.s, error, value, same, place, other)
        refuses(self, self.s, error, value, same, (self.p, 0), place)
        refuses(self, self.s, error, value, writes_of, [place])
        refuses(self, self.s, error, value, writes_of, [(self.p, 0), place, None, (self.p, 0)])

    def test_the_first_and_the_last_page(self):
        map_pages(self.s, self.p, 1, at=511)
        self.write(self.p, 511, 0)
        self.assertEqual([self.users(self.p, k) for k in (0, 511)], [[(self.p, 0)], [(self.p, 511)]])


class Counting(Case):

    def test_an_empty_system(self):
        s = System()
        self.assertEqual(count(s), (0, 0, 0))
        create(s, "f", 64)
        read_page(s, "f", 0)
        self.assertEqual(count(s), (0, 0, 0))

    def test_three_kinds(self):
        told = count(self.s)
        self.assertEqual((type(told), told), (tuple, (0, 0, 1)))
        self.write(self.p, 0, 1)
        self.assertEqual(count(self.s), (2, 0, 1))
        self.write(self.p, 6)
        self.assertEqual(count(self.s), (2, 1, 1))
        self.write(self.p, 2)
        self.assertEqual(count(self.s), (3, 1, 1))
        unmap(self.s, self.p, 4, 2)
        self.assertEqual(count(self.s), (3, 1, 0))

    def test_a_fork_adds_nothing(self):
        self.write(self.p, 0, 6)
        fork(self.s, self.p)
        self.assertEqual(count(self.s), (1, 1, 1))

    def test_file_pages_with_a_user(self):
        truncate(self.s, "f", 64)
        self.assertEqual(count(self.s), (0, 0, 2))
        create(self.s, "g", 2)
        map_pages(self.s, self.p, 4, source=("file", "g"), rights="none")
        self.assertEqual(count(self.s), (0, 0, 4))
        truncate(self.s, "f", 0)
        self.assertEqual(count(self.s), (0, 0, 2))

    def test_what_is_gone(self):
        self.write(self.p, 0, 1, 6, 7)
        drop(self.s, self.p, 0, 1)
        unmap(self.s, self.p, 7, 1)
        self.assertEqual(count(self.s), (1, 1, 1))
        fresh(self.s, self.p)
        self.assertEqual(count(self.s), (0, 0, 0))

    def test_the_same_answer_twice(self):
        self.write(self.p, 0, 6)
        number = now(self.s)
        self.assertEqual(count(self.s), count(self.s))
        self.assertEqual(now(self.s), number)


class Users(Case):

    def test_zeros_of_no_class_and_nothing(self):
        for number in (0, 3, 5, 6):
            self.assertEqual(self.users(self.p, number), [])
            self.assertIs(same(self.s, (self.p, number), (self.p, number)), False)

    def test_holders(self):
        self.write(self.p, 0)
        c = fork(self.s, self.p)
        d = fork(self.s, c)
        move(self.s, c, 0, 1, 100)
        self.assertEqual(self.users(d, 0), [(self.p, 0), (c, 100), (d, 0)])
        self.assertIs(same(self.s, (self.p, 0), (c, 100)), True)
        self.write(c, 100)
        self.assertEqual([self.users(d, 0), self.users(c, 100)], [[(self.p, 0), (d, 0)], [(c, 100)]])
        self.assertIs(same(self.s, (self.p, 0), (c, 100)), False)

    def test_equal_contents_are_not_the_same(self):
        self.write(self.p, 0, 1)
        self.assertFalse(same(self.s, (self.p, 0), (self.p, 1)))
        self.assertTrue(same(self.s, (self.p, 0), (self.p, 0)))

    def test_an_object_page(self):
        map_pages(self.s, self.p, 2, shared=True, source=("object", 1), index=1, at=50)
        c = fork(self.s, self.p)
        self.assertFalse(same(self.s, (self.p, 7), (self.p, 50)))
        self.write(c, 7)
        for place in ((self.p, 7), (self.p, 50), (c, 7), (c, 50)):
            self.assertEqual(users(self.s, place), [(1, 7), (1, 50), (2, 7), (2, 50)])
            self.assertTrue(same(self.s, (self.p, 7), place))
        self.assertEqual([self.users(self.p, k) for k in (6, 51)], [[], []])

    def test_another_page_of_the_object(self):
        self.write(self.p, 6, 7)
        self.assertFalse(same(self.s, (self.p, 6), (self.p, 7)))

    def test_a_file_page(self):
        c = fork(self.s, self.p)
        self.assertEqual(self.users(c, 4), [(1, 2), (1, 4), (2, 2), (2, 4)])
        self.assertTrue(same(self.s, (self.p, 2), (c, 4)))
        self.write(c, 2)
        self.assertEqual(self.users(c, 4), [(1, 2), (1, 4), (2, 4)])
        self.assertEqual(self.users(c, 2), [(c, 2)])
        self.assertFalse(same(self.s, (self.p, 2), (c, 2)))

    def test_pages_of_two_files(self):
        create(self.s, "g", 1)
        at = map_pages(self.s, self.p, 1, source=("file", "g"))
        self.assertEqual(self.users(self.p, at), [(self.p, at)])
        self.assertFalse(same(self.s, (self.p, at), (self.p, 2)))

    def test_a_class_and_an_untouched_page_do_not_mix(self):
        self.write(self.p, 0)
        for number in (1, 2, 3, 6):
            self.assertFalse(same(self.s, (self.p, 0), (self.p, number)))
            self.assertFalse(same(self.s, (self.p, number), (self.p, 0)))

    def test_the_rights_mean_nothing(self):
        self.write(self.p, 0)
        c = fork(self.s, self.p)
        protect(self.s, self.p, 0, 8, "none")
        self.assertEqual(self.users(c, 0), [(self.p, 0), (c, 0)])
        self.assertTrue(same(self.s, (self.p, 0), (c, 0)))
        self.assertEqual(self.users(self.p, 4), [(1, 2), (1, 4), (2, 2), (2, 4)])

    def test_hundreds(self):
        s = System()
        p = spawn(s)
        map_pages(s, p, 1, shared=True)
        for _ in range(500):
            map_pages(s, p, 1, shared=True, source=("object", 1))
        c = fork(s, p)
        write(s, c, 4 * 300, 1)
        self.assertEqual(users(s, (p, 0)), [(process, number) for process in (p, c) for number in range(501)])
        self.assertEqual(count(s), (0, 1, 0))

    def test_the_list_belongs_to_the_caller(self):
        self.write(self.p, 0)
        self.users(self.p, 0).clear()
        self.assertEqual(self.users(self.p, 0), [(self.p, 0)])


class NextWrite(Case):

    def test_untouched_pages(self):
        self.assertEqual(self.next(self.p, 0, 2, 3, 4, 5, 6), ["zeros", "file", None, "place", None, "zeros"])

    def test_written_pages(self):
        self.write(self.p, 0, 2, 4, 6)
        self.assertEqual(self.next(self.p, 0, 1, 2, 4, 6, 7), ["place", "zeros", "place", "place", "place", "zeros"])

    def test_forked_pages(self):
        self.write(self.p, 0, 2, 6)
        c = fork(self.s, self.p)
        for process in (self.p, c):
            self.assertEqual(self.next(process, 0, 1, 2, 4, 6, 7), ["copy", "zeros", "copy", "place", "place", "zeros"])
        self.write(c, 0)
        self.assertEqual(self.next(self.p, 0) + self.next(c, 0), ["place", "place"])

    def test_rights(self):
        self.write(self.p, 0, 6)
        for rights in ("r", "none"):
            protect(self.s, self.p, 0, 8, rights)
            self.assertEqual(self.next(self.p, *range(8)), [None] * 8)

    def test_past_the_end_with_a_class(self):
        self.write(self.p, 2)
        truncate(self.s, "f", 0)
        self.assertEqual(self.next(self.p, 2, 4), ["place", None])
        fork(self.s, self.p)
        self.assertEqual(self.next(self.p, 2), ["copy"])

    def test_room_is_not_looked_at(self):
        s = System(frames=1, slots=0)
        p = spawn(s)
        map_pages(s, p, 2)
        write(s, p, 0, 1)
        fork(s, p)
        self.assertEqual([next_write(s, (p, k)) for k in range(2)], ["copy", "zeros"])
        refuses(self, s, "NoRoom", None, write, p, 4, 1)
        self.assertEqual(writes_of(s, [(p, 0), (p, 1)]), (1, 1, 0))

    def test_it_changes_nothing(self):
        number = now(self.s)
        self.assertEqual(self.next(self.p, 0, 0, 6, 6), ["zeros"] * 4)
        self.assertEqual((now(self.s), count(self.s)), (number, (0, 0, 1)))


class WritesOf(Case):

    def test_no_places(self):
        told = self.writes()
        self.assertEqual((type(told), told), (tuple, (0, 0, 0)))

    def test_one_place(self):
        self.assertEqual([self.writes((self.p, k)) for k in (0, 2, 4, 6)], [(1, 0, 0), (0, 0, 1), (0, 0, 0), (1, 0, 0)])

    def test_zeros(self):
        c = fork(self.s, self.p)
        self.assertEqual(self.writes((self.p, 0), (c, 0), (c, 1)), (3, 0, 0))

    def test_an_object_page_becomes_a_class_once(self):
        c = fork(self.s, self.p)
        self.assertEqual(self.writes((self.p, 6), (c, 6)), (1, 0, 0))
        self.assertEqual(self.writes((self.p, 6), (c, 6), (c, 7), (self.p, 7)), (2, 0, 0))
        self.write(c, 7)
        self.assertEqual(self.writes((self.p, 6), (c, 6), (c, 7), (self.p, 7)), (1, 0, 0))
        other = map_pages(self.s, c, 1, shared=True)
        self.assertEqual(self.writes((c, other), (c, 6)), (2, 0, 0))

    def test_copies_of_file_pages(self):
        c = fork(self.s, self.p)
        at = map_pages(self.s, c, 1, source=("file", "f"))
        self.assertEqual(self.writes((self.p, 2), (c, 2), (c, at), (c, 4)), (0, 0, 3))

    def test_all_holders_but_the_last_one_copy(self):
        self.write(self.p, 0)
        self.assertEqual(self.writes((self.p, 0)), (0, 0, 0))
        family = [self.p] + [fork(self.s, self.p) for _ in range(4)]
        for many in range(1, 6):
            for some in itertools.combinations(family, many):
                self.assertEqual(self.writes(*[(process, 0) for process in some]), (0, min(many, 4), 0))

    def test_a_holder_that_cannot_write_keeps_the_class(self):
        self.write(self.p, 0)
        c = fork(self.s, self.p)
        d = fork(self.s, self.p)
        protect(self.s, d, 0, 1, "r")
        self.assertEqual(self.writes((self.p, 0), (c, 0)), (0, 2, 0))

    def test_two_holders_in_one_process(self):
        self.write(self.p, 0)
        c = fork(self.s, self.p)
        move(self.s, c, 0, 1, 100)
        self.assertEqual(self.writes((c, 100), (self.p, 0)), (0, 1, 0))

    def test_all_kinds_together(self):
        self.write(self.p, 0)
        c = fork(self.s, self.p)
        places = [(process, number) for process in (self.p, c) for number in (0, 1, 2, 4, 6, 7)]
        self.assertEqual(self.writes(*places), (4, 1, 2))
        self.assertEqual(self.writes(*places[::-1]), (4, 1, 2))
        for process, number in places:
            write(self.s, process, 4 * number, 7)
        self.assertEqual(count(self.s), (1 + 2 + 1 + 2, 2, 1))
        self.assertEqual(self.writes(*places), (0, 0, 0))

    def test_the_list_stays_as_it_is(self):
        places = [(self.p, 0), (self.p, 6)]
        writes_of(self.s, places)
        self.assertEqual(places, [(self.p, 0), (self.p, 6)])

    def test_no_list(self):
        for places in tuple(value for value in ODD if not isinstance(value, list)) + (
                None, 0, (), ((self.p, 0),), (self.p, 0), {(self.p, 0)}, {(self.p, 0): 1}, "", range(0)):
            refuses(self, self.s, "NoPages", "places", writes_of, places)

    def test_a_place_that_occurred_before(self):
        one, other = (self.p, 0), (self.p, 1)
        for places in ([one, one], [one, other, one], [one, other, other, (9, 9)], [one, (self.p, 0), None]):
            refuses(self, self.s, "NoPages", "places", writes_of, places)

    def test_place_by_place(self):
        protect(self.s, self.p, 1, 1, "r")
        protect(self.s, self.p, 5, 1, "none")
        good = [(self.p, 0), (self.p, 6)]
        bad = (((self.p, 1), "NoRight", 1), ((self.p, 3), "PastEnd", 3), ((self.p, 5), "NoRight", 5),
               ((self.p, 8), "NotMapped", 8), ((9, 0), "NoProcess", 9), (None, "NotMapped", None),
               ((self.p, 0), "NoPages", "places"))
        for (first, error, value), (second, _, _) in itertools.product(bad, bad):
            refuses(self, self.s, error, value, writes_of, good + [first, second])

    def test_true_is_not_one(self):
        refuses(self, self.s, "NoProcess", True, writes_of, [(1, 0), (True, 0)])
        refuses(self, self.s, "NotMapped", False, writes_of, [(1, 0), (1, False)])

    def test_hundreds(self):
        s = System()
        p = spawn(s)
        map_pages(s, p, 300)
        for number in range(150):
            write(s, p, 4 * number, 1)
        processes = [p] + [fork(s, p) for _ in range(3)]
        places = [(process, number) for number in range(300) for process in processes]
        self.assertEqual(writes_of(s, places), (600, 450, 0))
        self.assertEqual(writes_of(s, places[:600]), (0, 450, 0))


class Families(unittest.TestCase):
    """Forked processes that all write: n users cost n - 1 copies, in whatever order (0.2, 2.4)."""

    def family(self, many):
        self.s = System()
        p = spawn(self.s)
        map_pages(self.s, p, 1)
        write(self.s, p, 0, 100)
        return [p] + [fork(self.s, p) for _ in range(many - 1)]

    def test_in_whatever_order(self):
        for many in range(1, 5):
            for order in itertools.permutations(range(many)):
                family = self.family(many)
                effects = []
                for at in order:
                    effects.append(next_write(self.s, (family[at], 0)))
                    write(self.s, family[at], 1, at)
                self.assertEqual(effects, ["copy"] * (many - 1) + ["place"])
                self.assertEqual([read(self.s, family[at], 1) for at in range(many)], list(range(many)))
                self.assertEqual([read(self.s, process, 0) for process in family], [100] * many)
                self.assertEqual(count(self.s), (many, 0, 0))

    def test_twelve_processes(self):
        family = self.family(12)
        self.assertEqual(writes_of(self.s, [(process, 0) for process in family]), (0, 11, 0))
        for number, process in enumerate(family[::-1]):
            self.assertEqual(len(users(self.s, (process, 0))), 12 - number)
            write(self.s, process, 0, number)
            self.assertEqual(count(self.s), (min(number + 2, 12), 0, 0))
        self.assertEqual([read(self.s, process, 0) for process in family], list(range(11, -1, -1)))

    def test_generations(self):
        self.s = System()
        p = spawn(self.s)
        map_pages(self.s, p, 40)
        line = [p]
        for number in range(11):
            for page in range(number, 40):
                write(self.s, line[-1], 4 * page, number)
            line.append(fork(self.s, line[-1]))
        self.assertEqual([read(self.s, line[-1], 4 * page) for page in range(12)], list(range(11)) + [10])
        self.assertEqual([read(self.s, line[3], 4 * page) for page in range(5)], [0, 1, 2, 3, 3])
        self.assertEqual(users(self.s, (p, 0)), [(process, 0) for process in line])
        self.assertEqual(users(self.s, (line[-1], 39)), [(process, 39) for process in line[10:]])

    def test_writes_as_told(self):
        family = self.family(5)
        create(self.s, "f", 2)
        write_page(self.s, "f", 1, (1, 2, 3, 4))
        map_pages(self.s, family[1], 2, source=("file", "f"))
        map_pages(self.s, family[1], 2, shared=True)
        family += [fork(self.s, family[1]), fork(self.s, family[1])]
        places = [(process, 0) for process in family]
        places += [(process, page) for process in family[-2:] for page in range(1, 5)]
        before = count(self.s)
        zeros, copies, file_copies = writes_of(self.s, places)
        self.assertEqual((zeros, copies, file_copies), (2, 6, 4))
        for process, page in places + places[::-1]:
            write(self.s, process, 4 * page, 8)
        self.assertEqual(count(self.s), (before[0] + copies + file_copies, before[1] + zeros, 2))


if __name__ == "__main__":
    unittest.main()
