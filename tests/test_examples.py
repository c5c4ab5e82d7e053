"""The examples of DOC.md."""

import unittest

from pageclass.access import read, write
from pageclass.charges import charge, reserve
from pageclass.errors import NoCharge, NoRoom
from pageclass.exits import frees, share
from pageclass.files import create, read_page, write_page
from pageclass.locks import lock
from pageclass.merging import merge
from pageclass.pictures import changed, compose, increment, picture
from pageclass.positions import distances, faults, position
from pageclass.sharing import count, next_write, same
from pageclass.spaces import flag, map_pages, regions
from pageclass.steps import run
from pageclass.systems import System, fork, now, spawn


class Examples(unittest.TestCase):

    def setUp(self):
        self.s = System()
        self.p = spawn(self.s)
        self.a = map_pages(self.s, self.p, 2)

    def test_e01(self):
        self.assertEqual([self.a, regions(self.s, self.p)], [0, [(0, 2, "rw", False, None, None, ())]])

    def test_e02(self):
        self.assertIsNone(write(self.s, self.p, 5, 7))
        c = fork(self.s, self.p)
        self.assertEqual([next_write(self.s, (c, 1)), next_write(self.s, (self.p, 0)),
                          same(self.s, (self.p, 1), (c, 1)), count(self.s)], ["copy", "zeros", True, (1, 0, 0)])

    def test_e03(self):
        write(self.s, self.p, 5, 7)
        c = fork(self.s, self.p)
        write(self.s, c, 5, 9)
        self.assertEqual([read(self.s, self.p, 5), read(self.s, c, 5), next_write(self.s, (self.p, 1)), count(self.s)],
                         [7, 9, "place", (2, 0, 0)])

    def test_e04(self):
        write(self.s, self.p, 5, 7)
        fork(self.s, self.p)
        self.assertEqual([charge(self.s), reserve(self.s)], [4, 3])

    def test_e05(self):
        write(self.s, self.p, 0, 1)
        write(self.s, self.p, 4, 2)
        read(self.s, self.p, 0)
        self.assertEqual([position(self.s, (self.p, 0)), position(self.s, (self.p, 1)), distances(self.s),
                          faults(self.s, 1), faults(self.s, 2)], [1, 2, [None, None, 2], 1, 0])

    def test_e06(self):
        create(self.s, "f", 1)
        m = map_pages(self.s, self.p, 1, source=("file", "f"))
        write_page(self.s, "f", 0, (1, 2, 3, 4))
        x = read(self.s, self.p, 4 * m)
        write(self.s, self.p, 4 * m, 9)
        self.assertEqual([m, x, read(self.s, self.p, 4 * m), read_page(self.s, "f", 0)], [2, 1, 9, (1, 2, 3, 4)])

    def test_e07(self):
        flag(self.s, self.p, 0, 2, merge=True)
        write(self.s, self.p, 0, 5)
        write(self.s, self.p, 4, 5)
        self.assertEqual([same(self.s, (self.p, 0), (self.p, 1)), merge(self.s),
                          same(self.s, (self.p, 0), (self.p, 1))], [False, 1, True])

    def test_e08(self):
        write(self.s, self.p, 5, 7)
        c = fork(self.s, self.p)
        self.assertEqual([share(self.s, self.p), frees(self.s, (self.p,)), frees(self.s, (self.p, c))], [(1, 2), 0, 1])

    def test_e09(self):
        t = System(frames=1, slots=1, strict=True)
        q = spawn(t)
        map_pages(t, q, 2)
        with self.assertRaises(NoCharge):
            map_pages(t, q, 1)

    def test_e10(self):
        t = System(frames=1, slots=0)
        q = spawn(t)
        map_pages(t, q, 2)
        write(t, q, 0, 1)
        with self.assertRaises(NoRoom):
            write(t, q, 4, 1)

    def test_e11(self):
        write(self.s, self.p, 0, 1)
        n = now(self.s)
        k = picture(self.s, self.p)
        write(self.s, self.p, 4, 2)
        self.assertEqual([changed(self.s, self.p, n), compose(k, increment(self.s, self.p, n)) == picture(self.s, self.p)],
                         [[1], True])

    def test_e12(self):
        p = self.p
        self.assertEqual(run(self.s, [("write", p, 0, 3), ("read", p, 0), ("read", p, 9), ("spawn",),
                                      ("map_pages", p, 1, {"rights": "r"})]), [None, 3, ("raises", "NotMapped"), 2, 2])

    def test_e13(self):
        map_pages(self.s, self.p, 1)
        for number in range(3):
            write(self.s, self.p, 4 * number, 1)
        lock(self.s, self.p, 0, 1)
        read(self.s, self.p, 4)
        self.assertEqual([position(self.s, (self.p, number)) for number in range(3)], [1, 2, 3])


if __name__ == "__main__":
    unittest.main()
