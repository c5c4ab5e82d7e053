"""Lists of steps (12.1), and the arguments of steps by position and by name (0.4)."""

import inspect
import itertools
import unittest

from pageclass.access import read
from pageclass.exits import share
from pageclass.families import family
from pageclass.files import create, files
from pageclass.pictures import picture
from pageclass.positions import distances
from pageclass.sharing import count
from pageclass.spaces import map_pages, regions
from pageclass.steps import run
from pageclass.systems import System, now, processes, spawn
from draws import Busy, Draw, View
from steps import STEPS
from support import ODD, refuses, snapshot

ONES = (1, 1, 1, 1)


class Case(unittest.TestCase):

    def setUp(self):
        self.s = System()
        self.p = spawn(self.s)
        map_pages(self.s, self.p, 2)


class Performing(Case):

    def test_the_empty_list(self):
        before = snapshot(self.s)
        self.assertEqual(run(self.s, []), [])
        self.assertEqual(snapshot(self.s), before)

    def test_results(self):
        told = run(self.s, [("write", 1, 0, 3), ("read", 1, 0), ("fork", 1), ("create", "f", 2), ("read_page", "f", 1),
                            ("spawn",), ("map_pages", 3, 4), ("merge",), ("leave", 2)])
        self.assertEqual(told, [None, 3, 2, None, (0, 0, 0, 0), 3, 0, 0, None])
        self.assertEqual((now(self.s), processes(self.s), files(self.s)), (11, [1, 3], ["f"]))

    def test_every_step(self):
        told = family(self.s, (1,))
        lines = [("spawn",), ("fork", 1), ("fresh", 2), ("leave", 2), ("map_pages", 1, 2), ("unmap", 1, 3, 1),
                 ("protect", 1, 0, 1, "rw"), ("move", 1, 2, 1, 9), ("flag", 1, 0, 1), ("lock", 1, 0, 1), ("unlock", 1, 0, 1),
                 ("read", 1, 0), ("write", 1, 0, 7), ("need", 1, 0, 2), ("drop", 1, 0, 2), ("create", "f", 3),
                 ("read_page", "f", 0), ("write_page", "f", 0, ONES), ("truncate", "f", 2), ("sync", "f"),
                 ("drop_cache",), ("merge",), ("restore", told), ("crash",)]
        self.assertEqual(run(self.s, lines), [2, 3] + [None] * 2 + [2] + [None] * 6 + [0] + [None] * 4 + [(0, 0, 0, 0)]
                         + [None] * 4 + [0, [4], None])
        self.assertEqual(sorted(line[0] for line in lines), sorted(STEPS))
        self.assertEqual(now(self.s), 26)

    def test_errors_are_results(self):
        told = run(self.s, [("read", 1, 2048), ("read", 1, 8), ("read", 9, 0), ("write", 1, 0, 256),
                            ("protect", 1, 0, 1, "none"), ("read", 1, 0), ("read_page", "f", 0), ("create", "f", 1),
                            ("create", "f", 1), ("map_pages", 1, 1, {"source": ("file", "f"), "index": 1}),
                            ("read", 1, 8), ("lock", 1, 0, 1), ("write", 1, 4, 5)])
        self.assertEqual(told, [("raises", "NoPages"), ("raises", "NotMapped"), ("raises", "NoProcess"),
                                ("raises", "NoPages"), None, ("raises", "NoRight"), ("raises", "NoFile"), None,
                                ("raises", "Taken"), 2, ("raises", "PastEnd"), ("raises", "NoLock"), None])
        self.assertEqual((now(self.s), read(self.s, 1, 4)), (6, 5))

    def test_no_room_and_no_charge(self):
        s = System(frames=1, slots=0)
        lines = [("spawn",), ("map_pages", 1, 2), ("write", 1, 0, 1), ("write", 1, 4, 1), ("lock", 1, 0, 1)]
        self.assertEqual(run(s, lines)[2:], [None, ("raises", "NoRoom"), ("raises", "NoLock")])
        s = System(frames=1, slots=0, strict=True)
        self.assertEqual(run(s, lines), [1, ("raises", "NoCharge"), ("raises", "NotMapped"), ("raises", "NotMapped"),
                                         ("raises", "NotMapped")])

    def test_results_are_new(self):
        told = family(self.s, (1, ))
        made = run(self.s, [("restore", told), ("restore", told)])
        made[0].append(7)
        made.append(8)
        self.assertEqual(made, [[2, 7], [3], 8])
        self.assertEqual(processes(self.s), [1, 2, 3])

    def test_the_list_is_not_changed(self):
        named = {"rights": "r"}
        lines = [("map_pages", 1, 1, named), ("map_pages", 1, 1, named), ("leave", [1, {}])]
        run(self.s, lines)
        self.assertEqual((lines, named), ([("map_pages", 1, 1, {"rights": "r"})] * 2 + [("leave", [1, {}])], {"rights": "r"}))

    def test_cut_anywhere(self):
        lines = [("write", 1, 0, 3), ("fork", 1), ("write", 2, 0, 4), ("read", 9, 0), ("lock", 1, 0, 2), ("crash",),
                 ("spawn",), ("map_pages", 3, 2, {"at": 5, "shared": True}), ("write", 3, 23, 1), ("need", 3, 5, 2)]
        whole = System()
        first = [("spawn",), ("map_pages", 1, 2)]
        told = run(whole, first + lines)
        for cut in range(len(lines) + 1):
            s = System()
            self.assertEqual(run(s, first + lines[:cut]) + run(s, lines[cut:]), told)
            self.assertEqual((now(s), processes(s), distances(s), count(s), regions(s, 3), picture(s, 3), share(s, 3)),
                             (now(whole), processes(whole), distances(whole), count(whole), regions(whole, 3),
                              picture(whole, 3), share(whole, 3)))

    def test_random_steps_one_by_one(self):
        for seed, draw in itertools.product(range(4), (Draw, Busy)):
            one = System(frames=4, slots=6)
            lines, told = [], []
            source = draw(8000 + seed)
            for _ in range(150):
                name, args, named = source.step(View(one))
                lines.append((name,) + args + ((named,) if named else ()))
                told += run(one, lines[-1:])
            other = System(frames=4, slots=6)
            self.assertEqual(run(other, lines), told)
            self.assertEqual(now(other), len([result for result in told if not isinstance(result, tuple)
                                              or result[0] != "raises"]))


class ArgumentsByName(Case):

    def test_in_any_order(self):
        named = {"rights": "r", "shared": True, "source": None, "index": 0, "at": 50}
        for number, order in enumerate(itertools.permutations(named)):
            told = run(self.s, [("map_pages", 1, 1, dict({key: named[key] for key in order}, at=50 + 2 * number))])
            self.assertEqual(told, [50 + 2 * number])
        self.assertEqual(len(regions(self.s, 1)), 121)

    def test_errors_do_not_depend_on_the_order(self):
        wrong = {"rights": "x", "shared": 1, "index": -1, "at": -1}
        for order in itertools.permutations(wrong):
            refuses(self, self.s, "NoPages", "rights", map_pages, 1, 1, **{key: wrong[key] for key in order})

    def test_an_empty_dict(self):
        self.assertEqual(run(self.s, [("spawn", {}), ("read", 1, 0, {}), ("merge", {}), ("map_pages", 1, 1, {}),
                                      ("flag", 1, 0, 1, {})]), [2, 0, 0, 2, None])

    def test_flags(self):
        run(self.s, [("flag", 1, 0, 1, {"wipe": True, "merge": True}), ("flag", 1, 0, 2, {"stay": True, "wipe": None}),
                     ("flag", 1, 0, 2, {"merge": False})])
        self.assertEqual([region[6] for region in regions(self.s, 1)], [("stay", "wipe"), ("stay",)])

    def test_an_argument_by_position_that_is_a_dict(self):
        self.assertEqual(run(self.s, [("leave", {}), ("read", 1, {}), ("write", 1, 0, {"rights": "r"}), ("create", {}, {}),
                                      ("flag", 1, 0, {"merge": True}), ("map_pages", 1, {}, {}), ("fork", {1: 2}, {}),
                                      ("write_page", {}, {}, {}, {})]),
                         [("raises", name) for name in ("NoProcess", "NoPages", "NoPages", "NoFile", "NoPages", "NoPages",
                                                        "NoProcess", "NoFile")])


class NoStep(Case):

    def wrong(self, *items):
        for item in items:
            for lines in ([item], [item, 5], [item, ("spawn",), ("fork", 1)]):
                refuses(self, self.s, "NoStep", 0, run, lines)
            refuses(self, self.s, "NoStep", 2, run, [("spawn",), ("map_pages", 1, 1, {"at": 7}), item, ("spawn",), item])

    def test_no_list(self):
        for steps in ODD + (None, ("spawn",), (("spawn",),), {0: ("spawn",)}):
            if not isinstance(steps, list):
                refuses(self, self.s, "NoStep", None, run, steps)

    def test_no_tuples(self):
        self.wrong(*ODD, None, ["spawn"], "spawn", {"spawn": 1})

    def test_no_names_of_steps(self):
        self.wrong(("x",), ("",), ("run", []), ("now",), ("System",), ("regions", 1), ("Spawn",), (b"spawn",), (0,), (None,),
                   (spawn,), ([],), (("spawn",),), ("family", (1,)), ("count",), ("spawn ",), ({},))

    def test_every_step_has_its_number_of_arguments(self):
        for name, step in STEPS.items():
            kinds = [parameter.kind for parameter in inspect.signature(step).parameters.values()]
            many = kinds.count(inspect.Parameter.POSITIONAL_OR_KEYWORD) - 1
            for number in range(6):
                if number != many:
                    self.wrong((name,) + (1,) * number)
                    if number != many - 1:
                        self.wrong((name,) + (1,) * number + ({},))
                elif name != "restore":
                    self.assertEqual(len(run(System(), [(name,) + (True,) * number])), 1)
            self.wrong((name,) + (1,) * many + ({}, {}), (name,) + (1,) * many + ([],), (name,) + (1,) * many + (None,))

    def test_names_that_are_no_parameters_behind_the_star(self):
        self.wrong(("spawn", {"x": 1}), ("map_pages", 1, 1, {"count": 1}), ("map_pages", 1, 1, {"at": 3, "lock": True}),
                   ("flag", 1, 0, 1, {"lock": True}), ("flag", 1, 0, 1, {"system": 1}), ("write", 1, 0, 1, {"value": 3}),
                   ("write", 1, 0, {"value": 3}, {"value": 3}), ("map_pages", 1, 1, {1: 2}), ("map_pages", 1, 1, {None: 2}),
                   ("map_pages", 1, 1, {("at",): 2}), ("map_pages", 1, 1, {b"at": 2}), ("lock", 1, 0, 1, {"merge": True}),
                   ("flag", 1, 0, 1, {"rights": "r"}), ("map_pages", 1, 1, {"": 1}), ("restore", 1, {"at": 1}))

    def test_ahead_of_all_steps(self):
        refuses(self, self.s, "NoStep", 3, run, [("write", 1, 0, 9), ("spawn",), ("read", 9, 9), ("write", 1, 0)])
        self.assertEqual(read(self.s, 1, 0), 0)

    def test_two_systems(self):
        other = System()
        create(self.s, "f", 1)
        run(self.s, [("write", 1, 0, 9), ("spawn",)])
        self.assertEqual((now(other), processes(other), files(other)), (0, [], []))
        self.assertEqual(run(other, [("spawn",), ("read_page", "f", 0)]), [1, ("raises", "NoFile")])


if __name__ == "__main__":
    unittest.main()
