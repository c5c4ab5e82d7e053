"""The examples of DOC.md whose modules exist."""

import unittest

from pageclass.access import write
from pageclass.errors import NoCharge, NoRoom
from pageclass.spaces import map_pages, regions
from pageclass.systems import System, spawn


class Examples(unittest.TestCase):

    def setUp(self):
        self.s = System()
        self.p = spawn(self.s)
        self.a = map_pages(self.s, self.p, 2)

    def test_e01(self):
        self.assertEqual([self.a, regions(self.s, self.p)], [0, [(0, 2, "rw", False, None, None, ())]])

    def test_e09(self):
        t = System(frames=1, slots=1, strict=True)
        q = spawn(t)
        map_pages(t, q, 2)
        with self.assertRaises(NoCharge):
            map_pages(t, q, 1)

    def test_e10(self):
        t = System(frames=1, slots=0)
        q = spawn(t)
        map_pages(t, q, 2)
        write(t, q, 0, 1)
        with self.assertRaises(NoRoom):
            write(t, q, 4, 1)


if __name__ == "__main__":
    unittest.main()
