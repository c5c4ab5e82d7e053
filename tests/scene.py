"""A process with pages of all kinds, with which several tests begin."""

import unittest

from pageclass.access import read, write
from pageclass.files import create
from pageclass.positions import at_position
from pageclass.spaces import map_pages
from pageclass.systems import System, spawn


class Scene(unittest.TestCase):
    """s has the process p with eight pages, then four of a file f (shared or not), then four of an object (or not)."""

    shared_file = True
    has_object = True

    def setUp(self):
        self.make()

    def make(self, **named):
        self.s = System(**named)
        self.p = spawn(self.s)
        create(self.s, "f", 4)
        map_pages(self.s, self.p, 8)
        map_pages(self.s, self.p, 4, source=("file", "f"), shared=self.shared_file)
        if self.has_object:
            map_pages(self.s, self.p, 4, shared=True)

    def write(self, *numbers):
        for number in numbers:
            write(self.s, self.p, 4 * number, 1)

    def read(self, *numbers):
        for number in numbers:
            read(self.s, self.p, 4 * number)

    def row(self):
        """What the positions have; a private class is the list of the pages of the first process that hold it."""
        told = []
        for number in range(1, 40):
            what = at_position(self.s, number)
            if what is not None and what[0] == "private":
                what = [page for process, page in what[1] if process == self.p]
            told.append(what)
        while told and told[-1] is None:
            told.pop()
        return told
