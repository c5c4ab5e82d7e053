"""What is touched, which position it has then, and what the touches tell (7.1, 7.2, 7.4)."""

import unittest

from pageclass.access import drop, need, read, write
from pageclass.files import create, crash, drop_cache, read_page, sync, truncate, write_page
from pageclass.merging import merge
from pageclass.positions import at_position, distances, fits, position, working
from pageclass.spaces import flag, map_pages, move, protect, unmap
from pageclass.systems import System, fork, fresh, leave, spawn
from scene import Scene
from support import ODD, asks_place, refuses

ONES = (1, 1, 1, 1)
HUGE = 10 ** 3000


class Touches(Scene):
    """What touches an item (7.1)."""

    def test_reads_and_writes(self):
        self.write(0, 8, 12)
        self.assertEqual(self.row(), [("object", 1, 0), ("file", "f", 0), [0]])
        self.read(0, 8, 12)
        self.assertEqual(distances(self.s), [None, None, None, 3, 3, 3])

    def test_zeros_of_no_class_are_no_item(self):
        self.read(0, 12)
        need(self.s, self.p, 0, 8)
        self.assertEqual((self.row(), distances(self.s)), ([], []))

    def test_need(self):
        self.write(3, 1)
        need(self.s, self.p, 0, 16)
        self.assertEqual(distances(self.s), [None, None, 1, 2, None, None, None, None])
        self.assertEqual(self.row(), [("file", "f", k) for k in (3, 2, 1, 0)] + [[3], [1]])

    def test_need_passes_over_pages_without_rights(self):
        self.write(0, 1)
        protect(self.s, self.p, 0, 1, "none")
        protect(self.s, self.p, 1, 1, "r")
        need(self.s, self.p, 0, 2)
        self.assertEqual(distances(self.s), [None, None, 1])

    def test_need_touches_an_item_once_for_each_page(self):
        self.write(0)
        fork(self.s, self.p)
        map_pages(self.s, self.p, 4, source=("file", "f"), at=4)
        need(self.s, self.p, 4, 8)
        self.assertEqual(distances(self.s), [None] * 5 + [4] * 4)

    def test_file_pages(self):
        read_page(self.s, "f", 2)
        write_page(self.s, "f", 1, ONES)
        read_page(self.s, "f", 2)
        self.assertEqual((self.row(), distances(self.s)), ([("file", "f", 2), ("file", "f", 1)], [None, None, 2]))

    def test_a_copy(self):
        self.write(0, 1)
        c = fork(self.s, self.p)
        write(self.s, c, 0, 2)
        self.assertEqual(distances(self.s), [None, None, 2, None])
        self.assertEqual([at_position(self.s, k) for k in (1, 2, 3)],
                         [("private", [(c, 0)]), ("private", [(self.p, 0)]),
                          ("private", [(self.p, 1), (c, 1)])])

    def test_a_copy_of_a_file_page(self):
        map_pages(self.s, self.p, 1, source=("file", "f"), index=3, at=0)
        self.write(0)
        self.assertEqual((self.row(), distances(self.s)), ([[0], ("file", "f", 3)], [None, None]))

    def test_a_write_in_place_touches_once(self):
        self.write(0, 0)
        self.assertEqual(distances(self.s), [None, 1])

    def test_what_touches_nothing(self):
        self.write(0, 1, 12)
        before = distances(self.s)
        c = fork(self.s, self.p)
        map_pages(self.s, c, 1, at=100)
        protect(self.s, c, 0, 1, "r")
        flag(self.s, c, 0, 4, merge=True)
        move(self.s, c, 1, 1, 50)
        drop(self.s, c, 50, 1)
        unmap(self.s, c, 0, 1)
        merge(self.s)
        sync(self.s, "f")
        fresh(self.s, c)
        leave(self.s, c)
        truncate(self.s, "f", 0)
        drop_cache(self.s)
        self.assertEqual((distances(self.s), self.row()), (before, [("object", 1, 0), [1], [0]]))

    def test_a_step_that_raises_an_error_touches_nothing(self):
        self.make(frames=1, slots=0)
        self.write(0)
        c = fork(self.s, self.p)
        map_pages(self.s, self.p, 1, source=("file", "f"), at=1)
        refuses(self, self.s, "NoRoom", None, write, c, 0, 2)
        refuses(self, self.s, "NoRoom", None, write, self.p, 4, 2)
        refuses(self, self.s, "NoPages", "content", write_page, "f", 0, None)
        refuses(self, self.s, "NotMapped", 16, need, self.p, 0, 17)
        protect(self.s, self.p, 0, 1, "none")
        refuses(self, self.s, "NoRight", 0, read, self.p, 0)
        self.assertEqual(distances(self.s), [None])


class Positions(Scene):
    """Which position an item has (7.2)."""

    def test_the_last_touched_item_is_the_first(self):
        self.write(0, 1, 2)
        self.assertEqual(self.row(), [[2], [1], [0]])
        self.read(1)
        self.assertEqual(self.row(), [[1], [2], [0]])
        self.read(0)
        self.assertEqual(self.row(), [[0], [1], [2]])
        self.read(0)
        self.assertEqual((self.row(), distances(self.s)), ([[0], [1], [2]], [None, None, None, 2, 3, 1]))

    def test_position(self):
        self.write(0, 12, 8)
        self.assertEqual([position(self.s, (self.p, k)) for k in (0, 12, 8, 1, 13, 9)], [3, 2, 1, None, None, None])
        self.assertEqual(position(self.s, (fork(self.s, self.p), 0)), 3)

    def test_all_places_of_an_item(self):
        self.write(8)
        c = fork(self.s, self.p)
        map_pages(self.s, c, 1, source=("file", "f"), at=0, rights="none")
        self.assertEqual([position(self.s, place) for place in ((self.p, 8), (c, 8), (c, 0))], [1, 1, 1])

    def test_past_the_end(self):
        self.write(9)
        truncate(self.s, "f", 1)
        self.assertIsNone(position(self.s, (self.p, 9)))

    def test_an_item_that_is_gone_leaves_a_hole(self):
        self.write(0, 1, 2, 3)
        drop(self.s, self.p, 2, 1)
        self.assertEqual(self.row(), [[3], None, [1], [0]])
        self.assertEqual([position(self.s, (self.p, k)) for k in range(4)], [4, 3, None, 1])

    def test_a_hole_takes_what_moves(self):
        self.write(0, 1, 2, 3)
        drop(self.s, self.p, 2, 1)
        self.write(4)
        self.assertEqual(self.row(), [[4], [3], [1], [0]])
        self.write(5)
        self.assertEqual(self.row(), [[5], [4], [3], [1], [0]])

    def test_the_first_of_several_holes(self):
        self.write(0, 1, 2, 3, 4)
        unmap(self.s, self.p, 1, 1)
        unmap(self.s, self.p, 3, 1)
        self.assertEqual(self.row(), [[4], None, [2], None, [0]])
        self.read(0)
        self.assertEqual(self.row(), [[0], [4], [2]])
        self.read(2)
        self.assertEqual(self.row(), [[2], [0], [4]])

    def test_a_hole_behind_the_touched_item(self):
        self.write(0, 1, 2, 3)
        drop(self.s, self.p, 0, 1)
        self.read(1)
        self.assertEqual(self.row(), [[1], [3], [2]])
        self.write(4)
        self.assertEqual(self.row(), [[4], [1], [3], [2]])

    def test_a_hole_ahead_of_the_touched_item(self):
        self.write(0, 1, 2, 3)
        drop(self.s, self.p, 3, 1)
        self.assertEqual(self.row(), [None, [2], [1], [0]])
        self.read(0)
        self.assertEqual((self.row(), distances(self.s)[-1]), ([[0], [2], [1]], 4))

    def test_unmap_fresh_leave_and_maps_leave_holes(self):
        for gone in (lambda: unmap(self.s, self.p, 0, 2), lambda: fresh(self.s, self.p),
                     lambda: leave(self.s, self.p), lambda: map_pages(self.s, self.p, 2, at=0),
                     lambda: move(self.s, self.p, 4, 2, 0)):
            self.make()
            read_page(self.s, "f", 0)
            self.write(0)
            read_page(self.s, "f", 1)
            self.write(1)
            gone()
            self.assertEqual(self.row(), [None, ("file", "f", 1), None, ("file", "f", 0)])

    def test_a_shared_class_stays_as_long_as_it_has_a_holder(self):
        self.write(0, 1)
        c = fork(self.s, self.p)
        fresh(self.s, self.p)
        self.assertEqual(at_position(self.s, 2), ("private", [(c, 0)]))
        leave(self.s, c)
        self.assertEqual(self.row(), [])

    def test_an_object_page_that_nobody_shows(self):
        self.write(12, 13)
        unmap(self.s, self.p, 12, 1)
        self.assertEqual(self.row(), [("object", 1, 1)])
        map_pages(self.s, self.p, 1, shared=True, source=("object", 1), at=12)
        self.assertEqual((position(self.s, (self.p, 12)), self.row()), (None, [("object", 1, 1)]))
        self.write(12)
        self.assertEqual((self.row(), distances(self.s)), ([("object", 1, 0), ("object", 1, 1)], [None] * 3))

    def test_truncate_frees_what_it_removes(self):
        need(self.s, self.p, 8, 4)
        truncate(self.s, "f", 2)
        self.assertEqual(self.row(), [None, None, ("file", "f", 1), ("file", "f", 0)])
        truncate(self.s, "f", 4)
        self.assertEqual(self.row(), [None, None, ("file", "f", 1), ("file", "f", 0)])
        self.read(11)
        self.assertEqual((self.row(), distances(self.s)[-1]),
                         ([("file", "f", 3), None, ("file", "f", 1), ("file", "f", 0)], None))

    def test_drop_cache_frees_all_file_pages(self):
        create(self.s, "g", 1)
        read_page(self.s, "g", 0)
        self.write(0, 8, 1, 9)
        drop_cache(self.s)
        self.assertEqual(self.row(), [None, [1], None, [0]])
        self.read(8)
        self.assertEqual((self.row(), distances(self.s)[-1]), ([("file", "f", 0), [1], None, [0]], None))

    def test_sync_frees_nothing(self):
        self.write(8, 0)
        sync(self.s, "f")
        self.assertEqual(self.row(), [[0], ("file", "f", 0)])

    def test_crash_frees_all(self):
        self.write(0, 8, 12)
        crash(self.s)
        self.assertEqual(self.row(), [])
        read_page(self.s, "f", 0)
        read_page(self.s, "f", 1)
        self.assertEqual((self.row(), distances(self.s)),
                         ([("file", "f", 1), ("file", "f", 0)], [None] * 5))

    def test_a_file_page_keeps_its_position_when_it_leaves(self):
        self.make(frames=1, slots=0)
        read_page(self.s, "f", 0)
        self.write(0)
        self.assertEqual(self.row(), [[0], ("file", "f", 0)])
        read_page(self.s, "f", 1)
        read_page(self.s, "f", 0)
        self.assertEqual((self.row(), distances(self.s)),
                         ([("file", "f", 0), ("file", "f", 1), [0]], [None, None, None, 3]))

    def test_moved_pages_keep_their_positions(self):
        self.write(0, 1)
        move(self.s, self.p, 0, 2, 4)
        self.assertEqual(self.row(), [[5], [4]])

    def test_frames_and_slots_do_not_matter(self):
        rows = []
        for named in ({}, {"frames": 1}, {"frames": 2, "slots": 4}, {"frames": 64, "slots": 256, "strict": True}):
            self.make(**named)
            self.write(0, 8, 12, 1)
            self.read(0, 9, 12, 0)
            drop(self.s, self.p, 1, 1)
            self.write(13)
            rows.append((self.row(), distances(self.s)))
        self.assertEqual(rows, rows[:1] * 4)

    def test_merge_leaves_the_least_position(self):
        flag(self.s, self.p, 0, 8, merge=True)
        self.write(0, 1, 8, 2, 12)
        self.assertEqual(merge(self.s), 2)
        self.assertEqual(self.row(), [("object", 1, 0), [0, 1, 2], ("file", "f", 0)])
        self.read(0)
        self.assertEqual((self.row(), distances(self.s)[-1]),
                         ([[0, 1, 2], ("object", 1, 0), ("file", "f", 0)], 2))

    def test_merge_leaves_holes(self):
        flag(self.s, self.p, 0, 8, merge=True)
        self.write(0, 8, 1, 9)
        merge(self.s)
        self.assertEqual(self.row(), [("file", "f", 1), [0, 1], ("file", "f", 0)])
        self.write(5, 10)
        self.assertEqual(self.row(), [("file", "f", 2), [5], ("file", "f", 1), [0, 1], ("file", "f", 0)])

    def test_objects_have_their_numbers(self):
        map_pages(self.s, self.p, 3, shared=True, at=100)
        self.write(102, 13)
        self.assertEqual(self.row(), [("object", 1, 1), ("object", 2, 2)])

    def test_at_position(self):
        self.write(0)
        c = fork(self.s, self.p)
        self.assertEqual(at_position(self.s, 1), ("private", [(self.p, 0), (c, 0)]))
        for number in (2, 3, 1000, HUGE):
            self.assertIsNone(at_position(self.s, number))

    def test_at_position_and_wrong_numbers(self):
        self.write(0)
        for number in ODD + (None, 0, -1, -HUGE):
            refuses(self, self.s, "NoPages", "number", at_position, number)

    def test_position_and_wrong_places(self):
        self.write(0)
        asks_place(self, self.s, self.p, 16, position)

    def test_a_system_without_a_touch(self):
        self.assertIsNone(at_position(System(), 1))
        self.assertEqual((distances(System()), fits(System(), []), working(System(), 5)), ([], (1, None), 0))


class Fits(Scene):
    """The numbers of frames with just these faults (7.4)."""

    def setUp(self):
        """The distances are None, None, None, 1, 3, 3, 2, None, 4."""
        Scene.setUp(self)
        self.write(0, 1, 2, 2, 0, 1, 0, 3, 2)

    def log(self, *faults):
        return [number in faults for number in range(9)]

    def test_the_distances(self):
        self.assertEqual(distances(self.s), [None, None, None, 1, 3, 3, 2, None, 4])

    def test_one_number_only(self):
        self.assertEqual(fits(self.s, self.log(4, 5, 6, 8)), (1, 1))
        self.assertEqual(fits(self.s, self.log(4, 5, 8)), (2, 2))
        self.assertEqual(fits(self.s, self.log(8)), (3, 3))

    def test_without_a_bound(self):
        self.assertEqual(fits(self.s, self.log()), (4, None))

    def test_no_number(self):
        for faults in ((3, 4, 5, 6, 8), (3,), (4,), (4, 5), (6, 8), (4, 5, 6)):
            self.assertIsNone(fits(self.s, self.log(*faults)))

    def test_a_range(self):
        read_page(self.s, "f", 0)
        drop(self.s, self.p, 0, 4)
        self.write(0, 1, 2, 4, 0)
        self.assertEqual(distances(self.s)[9:], [None, None, None, None, None, 4])
        read_page(self.s, "f", 0)
        self.write(5, 6)
        read_page(self.s, "f", 0)
        told = distances(self.s)
        self.assertEqual(told[-4:], [5, None, None, 3])
        for frames in range(1, 9):
            log = [distance is not None and distance > frames for distance in told]
            same = [other for other in range(1, 99)
                    if log == [distance is not None and distance > other for distance in told]]
            self.assertEqual(fits(self.s, log), (same[0], None if same[-1] == 98 else same[-1]))
        fault = [False] * (len(told) - 1) + [True]
        self.assertIsNone(fits(self.s, fault))

    def test_only_new_items(self):
        s = System()
        p = spawn(s)
        map_pages(s, p, 3)
        for number in range(3):
            write(s, p, 4 * number, 1)
        self.assertEqual(fits(s, [False] * 3), (1, None))
        read(s, p, 0)
        self.assertEqual((fits(s, [False] * 4), fits(s, [False] * 3 + [True])), ((3, None), (1, 2)))

    def test_above_999(self):
        s = System()
        processes = [spawn(s), spawn(s)]
        for p in processes:
            map_pages(s, p, 512)
            for number in range(512):
                write(s, p, 4 * number, 1)
        read(s, processes[0], 0)
        self.assertEqual(distances(s)[-1], 1024)
        self.assertEqual((fits(s, [False] * 1025), fits(s, [False] * 1024 + [True])), ((1024, None), (1, 1023)))

    def test_wrong_logs(self):
        good = self.log(8)
        for log in ODD + (None, good[:-1], good + [False], tuple(good), [], {k: False for k in range(9)}):
            refuses(self, self.s, "NoPages", "log", fits, log)
        for number in range(9):
            for odd in (0, 1, None, "", "True", [], HUGE, object()):
                refuses(self, self.s, "NoPages", "log", fits, good[:number] + [odd] + good[number + 1:])

    def test_a_fault_where_there_is_no_distance(self):
        for number in (0, 1, 2, 7):
            refuses(self, self.s, "NoPages", "log", fits, self.log(8, number))

    def test_the_log_is_not_changed(self):
        log = self.log(8)
        fits(self.s, log)
        self.assertEqual(log, self.log(8))

    def test_after_a_crash(self):
        crash(self.s)
        refuses(self, self.s, "NoHistory", None, fits, self.log())
        refuses(self, self.s, "NoPages", "log", fits, [])
        refuses(self, self.s, "NoPages", "log", fits, self.log(0))
        self.assertEqual(distances(self.s), [None, None, None, 1, 3, 3, 2, None, 4])


class Working(Scene):
    """How many items the last touches touched (7.4)."""

    def test_the_last_touches(self):
        self.write(0, 1, 2, 1, 1, 0)
        self.assertEqual([working(self.s, count) for count in range(9)], [0, 1, 2, 2, 3, 3, 3, 3, 3])
        self.assertEqual(working(self.s, HUGE), 3)

    def test_classes_that_are_gone_count(self):
        self.write(0)
        drop(self.s, self.p, 0, 1)
        self.write(0)
        self.assertEqual([working(self.s, count) for count in (1, 2, 3)], [1, 2, 2])

    def test_classes_that_were_merged_are_two(self):
        flag(self.s, self.p, 0, 2, merge=True)
        self.write(0, 1)
        merge(self.s)
        self.assertEqual(working(self.s, 2), 2)
        self.read(0, 1)
        self.assertEqual([working(self.s, count) for count in (2, 4)], [1, 2])

    def test_a_copy_is_another_class(self):
        self.write(0)
        write(self.s, fork(self.s, self.p), 0, 2)
        self.assertEqual([working(self.s, count) for count in (1, 2, 3)], [1, 2, 2])

    def test_an_object_page_that_was_gone_is_another_one(self):
        self.write(12, 13, 12)
        unmap(self.s, self.p, 12, 1)
        map_pages(self.s, self.p, 1, shared=True, source=("object", 1), at=12)
        self.write(12)
        self.assertEqual([working(self.s, count) for count in (1, 2, 3, 4)], [1, 2, 3, 3])

    def test_a_file_page_stays_the_same(self):
        self.read(8)
        drop_cache(self.s)
        self.read(8)
        sync(self.s, "f")
        self.write(8)
        crash(self.s)
        read_page(self.s, "f", 0)
        self.assertEqual((working(self.s, 4), distances(self.s)), (1, [None, None, 1, None]))

    def test_until_it_is_truncated(self):
        self.read(8, 9)
        truncate(self.s, "f", 1)
        truncate(self.s, "f", 2)
        self.read(8, 9)
        self.assertEqual([working(self.s, count) for count in (2, 3, 4)], [2, 3, 3])

    def test_wrong_counts(self):
        for count in ODD + (None, -1, -HUGE):
            refuses(self, self.s, "NoPages", "count", working, count)

    def test_lists_are_new(self):
        self.write(0)
        distances(self.s).append(7)
        at_position(self.s, 1)[1].append(7)
        self.assertEqual((distances(self.s), at_position(self.s, 1)), ([None], ("private", [(self.p, 0)])))


if __name__ == "__main__":
    unittest.main()
