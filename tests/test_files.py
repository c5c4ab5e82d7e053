"""Files: made, read, written, cut, made longer, refused (3.1, 3.2, 3.4)."""

import unittest

from pageclass.access import drop, need, read, write
from pageclass.files import create, disk, drop_cache, files, read_page, size, sync, truncate, write_page
from pageclass.sharing import count, next_write, same, users
from pageclass.spaces import flag, map_pages, protect, regions, unmap
from pageclass.systems import System, fork, fresh, now, spawn
from support import ODD, STRANGE, cells, refuses, touched

ZEROS = (0, 0, 0, 0)
ONES = (1, 2, 3, 4)
TWOS = (5, 6, 7, 8)
# None of these is the name of a file if there are the files "f" and "g" alone.
NO_FILES = ODD + (None, 0, 1, -1, 10 ** 30, "", "ff", "F", "h", "f ", "abcdefghi", ("f",), ("file", "f"), ["f"], b"f")


class Case(unittest.TestCase):

    def setUp(self):
        self.s = System()
        self.p = spawn(self.s)

    def no_file(self, step, *args, names=NO_FILES):
        for name in names:
            refuses(self, self.s, "NoFile", name, step, name, *args)

    def part(self, part, step, *args):
        refuses(self, self.s, "NoPages", part, step, *args)

    def contents(self, name):
        return [read_page(self.s, name, index) for index in range(size(self.s, name))]


class Creating(Case):

    def test_pages_of_zeros_on_the_disk(self):
        for name, many in (("f", 0), ("g", 1), ("h", 2), ("i", 63), ("j", 64)):
            self.assertIsNone(create(self.s, name, many))
            self.assertEqual((size(self.s, name), disk(self.s, name)), (many, [ZEROS] * many))
            self.assertEqual(self.contents(name), [ZEROS] * many)

    def test_the_sorted_list_of_names(self):
        self.assertEqual(files(self.s), [])
        for name in ("z", "b", "abcdefgh", "a", "ab"):
            create(self.s, name, 1)
        self.assertEqual(files(self.s), ["a", "ab", "abcdefgh", "b", "z"])

    def test_it_touches_nothing(self):
        create(self.s, "f", 64)
        self.assertEqual(touched(self.s), [])

    def test_no_names(self):
        letters = ("A", "aB", "a1", "1", "a b", " ", "a_", "a-b", "a\n", "\n", "abcdefghi", "abcdefghijklmnop", "",
                   "ab.", "\u00e4", "\u00df", "\u0430", "a\u0301", "{", "`")
        for name in STRANGE + (None, True, 0, 1) + letters:
            refuses(self, self.s, "NoFile", name, create, name, 1)
            refuses(self, self.s, "NoFile", name, create, name, -1)
            refuses(self, self.s, "NoFile", name, create, name, name)
        self.assertEqual(files(self.s), [])

    def test_taken(self):
        create(self.s, "f", 2)
        write_page(self.s, "f", 1, ONES)
        for many in (0, 2, 64, 65, -1, None, True, [], "f"):
            refuses(self, self.s, "Taken", "f", create, "f", many)
        self.assertEqual(self.contents("f"), [ZEROS, ONES])

    def test_wrong_counts(self):
        for many in ODD + (None, -1, 65, 512, 10 ** 30, -10 ** 30, (1, 2)):
            self.part("count", create, "f", many)
        self.assertEqual(files(self.s), [])
        create(self.s, "f", 1)

    def test_eight_files_and_more_raise_nothing(self):
        for letter in "abcdefghij":
            create(self.s, letter, 64)
        self.assertEqual("".join(files(self.s)), "abcdefghij")

    def test_the_lists_belong_to_the_caller(self):
        create(self.s, "f", 2)
        files(self.s).append("g")
        disk(self.s, "f").clear()
        self.assertEqual((files(self.s), disk(self.s, "f")), (["f"], [ZEROS] * 2))

    def test_systems_are_apart(self):
        other = System()
        create(self.s, "f", 2)
        self.assertEqual(files(other), [])
        create(other, "f", 1)
        write_page(other, "f", 0, ONES)
        self.assertEqual((size(self.s, "f"), read_page(self.s, "f", 0)), (2, ZEROS))


class Missing(Case):
    """Wherever a file is expected, NoFile tells of what is none (3.1)."""

    def test_in_a_system_without_files(self):
        for step, args in ((size, ()), (disk, ()), (sync, ()), (read_page, (0,)), (write_page, (0, ZEROS)),
                           (truncate, (0,))):
            self.no_file(step, *args, names=NO_FILES + ("f", "g"))

    def test_ahead_of_the_other_parameters(self):
        create(self.s, "f", 1)
        create(self.s, "g", 0)
        for step, args in ((size, ()), (disk, ()), (sync, ()), (read_page, (-1,)), (read_page, ("f",)),
                           (write_page, (-1, None)), (write_page, (0, ZEROS)), (truncate, (65,)), (truncate, (1,))):
            self.no_file(step, *args)


class Pages(Case):

    def setUp(self):
        Case.setUp(self)
        create(self.s, "f", 64)
        create(self.s, "g", 1)
        create(self.s, "h", 0)

    def test_the_first_and_the_last_page(self):
        for name, index in (("f", 0), ("f", 63), ("g", 0)):
            self.assertIsNone(write_page(self.s, name, index, ONES))
            self.assertEqual(read_page(self.s, name, index), ONES)
            write_page(self.s, name, index, (0, 255, 0, 255))
            self.assertEqual(read_page(self.s, name, index), (0, 255, 0, 255))
        self.assertEqual(self.contents("f")[1:63], [ZEROS] * 62)

    def test_the_content_is_a_tuple(self):
        write_page(self.s, "f", 5, ONES)
        content = read_page(self.s, "f", 5)
        self.assertEqual((type(content), [type(cell) for cell in content]), (tuple, [int] * 4))

    def test_both_touch_the_page(self):
        write_page(self.s, "f", 5, ONES)
        read_page(self.s, "f", 5)
        read_page(self.s, "g", 0)
        write_page(self.s, "g", 0, ZEROS)
        self.assertEqual(touched(self.s), [("file", "f", 5)] * 2 + [("file", "g", 0)] * 2)

    def test_wrong_indexes(self):
        for index in ODD + (None, -1, 64, 512, 10 ** 30, -10 ** 30, ZEROS):
            self.part("index", read_page, "f", index)
            self.part("index", write_page, "f", index, ONES)
            self.part("index", write_page, "f", index, index)
        for index in (1, 2, 63):
            self.part("index", read_page, "g", index)
            self.part("index", write_page, "g", index, ZEROS)
        self.part("index", read_page, "h", 0)
        self.part("index", write_page, "h", 0, ZEROS)

    def test_wrong_contents(self):
        for content in ODD + (None, 0, 1, 10 ** 30, "abcd", b"abcd", (1, 2, 3), (1, 2, 3, 4, 5), [1, 2, 3, 4], (ZEROS,),
                              {1: 1, 2: 2, 3: 3, 4: 4}, {1, 2, 3, 4}, range(4)):
            self.part("content", write_page, "f", 0, content)
        for cell in ODD + (None, -1, 256, 10 ** 30):
            for place in range(4):
                self.part("content", write_page, "f", 63, ONES[:place] + (cell,) + ONES[place + 1:])
        self.assertEqual(self.contents("f"), [ZEROS] * 64)

    def test_a_shared_page_is_the_file_page(self):
        m = map_pages(self.s, self.p, 2, shared=True, source=("file", "f"), index=62)
        write(self.s, self.p, 4 * m + 7, 9)
        self.assertEqual(read_page(self.s, "f", 63), (0, 0, 0, 9))
        write_page(self.s, "f", 62, ONES)
        self.assertEqual([read(self.s, self.p, k) for k in range(8)], [1, 2, 3, 4, 0, 0, 0, 9])

    def test_a_private_page_follows_the_file_until_it_is_written(self):
        map_pages(self.s, self.p, 2, source=("file", "f"))
        write_page(self.s, "f", 0, ONES)
        self.assertEqual(cells(self.s, self.p, 0), ONES)
        write(self.s, self.p, 0, 9)
        write_page(self.s, "f", 0, TWOS)
        write_page(self.s, "f", 1, TWOS)
        self.assertEqual([cells(self.s, self.p, k) for k in (0, 1)], [(9, 2, 3, 4), TWOS])
        self.assertEqual(read_page(self.s, "f", 0), TWOS)
        drop(self.s, self.p, 0, 1)
        self.assertEqual(cells(self.s, self.p, 0), TWOS)

    def test_pages_that_are_not_mapped_keep_what_they_are(self):
        m = map_pages(self.s, self.p, 1, shared=True, source=("file", "f"))
        write(self.s, self.p, 4 * m, 7)
        fresh(self.s, self.p)
        self.assertEqual(read_page(self.s, "f", 0), (7, 0, 0, 0))


class Truncating(Case):

    def setUp(self):
        Case.setUp(self)
        create(self.s, "f", 3)
        for index, content in enumerate((ONES, TWOS, ONES)):
            write_page(self.s, "f", index, content)

    def test_shorter(self):
        self.assertIsNone(truncate(self.s, "f", 1))
        self.assertEqual((size(self.s, "f"), self.contents("f"), len(disk(self.s, "f"))), (1, [ONES], 1))
        self.part("index", read_page, "f", 1)
        truncate(self.s, "f", 0)
        self.assertEqual((size(self.s, "f"), disk(self.s, "f")), (0, []))
        self.part("index", read_page, "f", 0)
        self.assertEqual(files(self.s), ["f"])

    def test_longer(self):
        for many in (4, 63, 64):
            truncate(self.s, "f", many)
            self.assertEqual(self.contents("f"), [ONES, TWOS, ONES] + [ZEROS] * (many - 3))
            self.assertEqual(len(disk(self.s, "f")), many)

    def test_the_same_length(self):
        before = now(self.s)
        truncate(self.s, "f", 3)
        self.assertEqual((self.contents("f"), now(self.s)), ([ONES, TWOS, ONES], before + 1 + 3))

    def test_pages_that_come_back_are_zeros(self):
        sync(self.s, "f")
        truncate(self.s, "f", 1)
        truncate(self.s, "f", 3)
        self.assertEqual(self.contents("f"), [ONES, ZEROS, ZEROS])
        self.assertEqual(disk(self.s, "f"), [ONES, ZEROS, ZEROS])

    def test_it_touches_nothing(self):
        before = touched(self.s)
        truncate(self.s, "f", 1)
        truncate(self.s, "f", 9)
        self.assertEqual(touched(self.s), before)

    def test_pages_past_the_end_show_nothing(self):
        for shared in (False, True):
            at = map_pages(self.s, self.p, 3, source=("file", "f"), shared=shared)
            truncate(self.s, "f", 1)
            self.assertEqual([cells(self.s, self.p, at + k) for k in range(3)], [ONES, None, None])
            refuses(self, self.s, "PastEnd", at + 1, read, self.p, 4 * at + 4)
            refuses(self, self.s, "PastEnd", at + 2, write, self.p, 4 * at + 8, 1)
            self.assertEqual(next_write(self.s, (self.p, at + 1)), None)
            self.assertEqual(users(self.s, (self.p, at + 1)), [])
            self.assertFalse(same(self.s, (self.p, at + 1), (self.p, at + 1)))
            truncate(self.s, "f", 3)
            self.assertEqual([cells(self.s, self.p, at + k) for k in range(3)], [ONES, ZEROS, ZEROS])
            write(self.s, self.p, 4 * at + 8, 1)
            unmap(self.s, self.p, at, 3)

    def test_a_page_that_holds_a_class_keeps_it(self):
        map_pages(self.s, self.p, 3, source=("file", "f"))
        write(self.s, self.p, 8, 9)
        c = fork(self.s, self.p)
        truncate(self.s, "f", 0)
        self.assertEqual([cells(self.s, c, k) for k in range(3)], [None, None, (9, 2, 3, 4)])
        write(self.s, c, 9, 8)
        self.assertEqual([cells(self.s, process, 2) for process in (self.p, c)], [(9, 2, 3, 4), (9, 8, 3, 4)])
        drop(self.s, c, 2, 1)
        refuses(self, self.s, "PastEnd", 2, read, c, 8)
        truncate(self.s, "f", 3)
        self.assertEqual([cells(self.s, process, 2) for process in (self.p, c)], [(9, 2, 3, 4), ZEROS])

    def test_mapped_ahead_of_the_end(self):
        at = map_pages(self.s, self.p, 1, source=("file", "f"), shared=True, index=63)
        refuses(self, self.s, "PastEnd", at, read, self.p, 4 * at)
        truncate(self.s, "f", 63)
        refuses(self, self.s, "PastEnd", at, read, self.p, 4 * at)
        truncate(self.s, "f", 64)
        write(self.s, self.p, 4 * at, 5)
        self.assertEqual(read_page(self.s, "f", 63), (5, 0, 0, 0))

    def test_regions_stay(self):
        map_pages(self.s, self.p, 5, source=("file", "f"))
        before = regions(self.s, self.p)
        truncate(self.s, "f", 0)
        self.assertEqual(regions(self.s, self.p), before)

    def test_wrong_counts(self):
        for many in ODD + (None, -1, 65, 512, 10 ** 30, -10 ** 30, ("f",)):
            self.part("count", truncate, "f", many)
        self.assertEqual(self.contents("f"), [ONES, TWOS, ONES])


class Charged(unittest.TestCase):
    """Files and their pages in strict mode (9.1, 9.3)."""

    def setUp(self):
        self.s = System(frames=2, slots=2, strict=True)
        self.p = spawn(self.s)
        create(self.s, "f", 1)

    def no_charge(self, step, *args, **named):
        refuses(self, self.s, "NoCharge", None, step, *args, **named)

    def test_a_longer_file(self):
        map_pages(self.s, self.p, 6, source=("file", "f"))
        for many in (5, 6, 64):
            self.no_charge(truncate, "f", many)
        truncate(self.s, "f", 4)
        self.no_charge(truncate, "f", 5)
        self.no_charge(map_pages, self.p, 1)
        truncate(self.s, "f", 3)
        truncate(self.s, "f", 4)
        for number in range(4):
            write(self.s, self.p, 4 * number, 1)
        self.no_charge(truncate, "f", 5)

    def test_only_untouched_private_pages_that_can_be_written_count(self):
        map_pages(self.s, self.p, 20, source=("file", "f"), rights="r")
        map_pages(self.s, self.p, 20, source=("file", "f"), rights="none")
        map_pages(self.s, self.p, 20, source=("file", "f"), shared=True)
        create(self.s, "g", 0)
        map_pages(self.s, self.p, 20, source=("file", "g"))
        truncate(self.s, "f", 64)
        self.no_charge(truncate, "g", 5)
        truncate(self.s, "g", 4)
        self.no_charge(protect, self.p, 2, 1, "rw")

    def test_a_page_that_holds_a_class_does_not_count_again(self):
        truncate(self.s, "f", 4)
        map_pages(self.s, self.p, 4, source=("file", "f"))
        for number in range(4):
            write(self.s, self.p, 4 * number, 1)
        truncate(self.s, "f", 0)
        self.no_charge(map_pages, self.p, 1)
        truncate(self.s, "f", 64)

    def test_all_processes_count(self):
        map_pages(self.s, self.p, 2, source=("file", "f"), index=1)
        fork(self.s, self.p)
        fork(self.s, self.p)
        self.no_charge(truncate, "f", 3)
        truncate(self.s, "f", 2)
        self.no_charge(truncate, "f", 3)

    def test_other_errors_come_first(self):
        map_pages(self.s, self.p, 64, source=("file", "f"))
        refuses(self, self.s, "NoFile", "g", truncate, "g", 64)
        refuses(self, self.s, "NoPages", "count", truncate, "f", 65)
        self.no_charge(truncate, "f", 64)

    def test_without_strict_mode_nothing_is_charged(self):
        s = System(frames=1, slots=0)
        p = spawn(s)
        create(s, "f", 0)
        map_pages(s, p, 64, source=("file", "f"))
        truncate(s, "f", 64)
        write(s, p, 0, 1)
        refuses(self, s, "NoRoom", None, write, p, 4, 1)
        self.assertEqual(count(s), (1, 0, 63))


class Steps(Case):
    """The numbers of steps (0.4)."""

    def test_each_step_has_a_number(self):
        number = now(self.s)
        for step, *args in ((create, "f", 2), (read_page, "f", 0), (write_page, "f", 0, ONES), (truncate, "f", 1),
                            (sync, "f"), (drop_cache,), (truncate, "f", 1), (sync, "f"), (drop_cache,)):
            step(self.s, *args)
            number += 1
            self.assertEqual(now(self.s), number)

    def test_questions_have_none(self):
        create(self.s, "f", 2)
        number = now(self.s)
        for question, *args in ((files,), (size, "f"), (disk, "f")):
            self.assertEqual(question(self.s, *args), question(self.s, *args))
        self.assertEqual(now(self.s), number)

    def test_pages_of_files_in_other_steps(self):
        create(self.s, "f", 2)
        map_pages(self.s, self.p, 3, source=("file", "f"))
        flag(self.s, self.p, 0, 3, wipe=True)
        need(self.s, self.p, 0, 3)
        self.assertEqual(touched(self.s), [("file", "f", 0), ("file", "f", 1)])
        write(self.s, self.p, 0, 1)
        c = fork(self.s, self.p)
        self.assertEqual([cells(self.s, c, k) for k in range(3)], [ZEROS, ZEROS, None])


if __name__ == "__main__":
    unittest.main()
