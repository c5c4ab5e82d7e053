"""What the tests share."""

from pageclass import errors
from pageclass.files import create, write_page
from pageclass.pages import Item, Page
from pageclass.rows import History
from pageclass.sharing import count
from pageclass.stores import shown, shows_nothing
from pageclass.systems import System

VALUES = {
    "NoSystem": "part",
    "NoProcess": "process",
    "NoPages": "part",
    "NotMapped": "page",
    "NoRight": "page",
    "PastEnd": "page",
    "NoFile": "name",
    "Taken": "name",
    "NoLock": "page",
    "NoStep": "at",
}


class Agreeable:
    """Without a hash, and equal to everything."""

    __hash__ = None

    def __eq__(self, other):
        return True


class Prickly:
    """Cannot be compared at all."""

    __hash__ = None

    def __eq__(self, other):
        raise RuntimeError("compared")


# No integer is among these.
ODD = (True, False, "", "1", "frames", b"1", [], [1], {}, {1: 2}, {"a": []}, (), (1,), ([],),
       {1, 2}, object(), len, int, ValueError("x"), Agreeable(), Prickly())
# Nor is an integer, a bool, a string or None among these.
STRANGE = tuple(value for value in ODD if not isinstance(value, (int, str)))


def snapshot(value, seen=None):
    """All that a system is made of, for comparison with a later snapshot of it; each object is opened once."""
    seen = set() if seen is None else seen
    if isinstance(value, (System, Page, Item, History)):
        if id(value) in seen:
            return id(value)
        seen.add(id(value))
        return id(value), snapshot(vars(value), seen)
    if isinstance(value, dict):
        return [(snapshot(key, seen), snapshot(item, seen)) for key, item in value.items()]
    if isinstance(value, (list, tuple)):
        return [snapshot(item, seen) for item in value]
    return value


def refuses(case, system, error, value, step, *args, **named):
    """The step raises this error with this value, and changes nothing."""
    before = snapshot(system)
    with case.assertRaises(errors.PageError) as caught:
        step(system, *args, **named)
    case.assertEqual(snapshot(system), before)
    told = caught.exception
    case.assertEqual(told.__class__.__name__, error)
    if error in VALUES:
        held = getattr(told, VALUES[error])
        if isinstance(value, (int, str)):
            case.assertEqual((type(held), held), (type(value), value))
        else:
            case.assertIs(held, value)


def refuses_process(case, system, step, *args, **named):
    """The step checks its process: of anything, and before any other argument."""
    for process in ODD + (None, 0, -1, 99, 10 ** 30):
        refuses(case, system, "NoProcess", process, step, process, *args, **named)


def refuses_range(case, system, process, step, *args, **named):
    """The step checks first and count: of anything, and before the later arguments."""
    for first in ODD + (None, -1, 512, 513, 10 ** 30):
        refuses(case, system, "NoPages", "first", step, process, first, 1, *args, **named)
        refuses(case, system, "NoPages", "first", step, process, first, "x", *args, **named)
    for count in ODD + (None, 0, -1, 513, 10 ** 30):
        refuses(case, system, "NoPages", "count", step, process, 0, count, *args, **named)
    refuses(case, system, "NoPages", "count", step, process, 1, 512, *args, **named)
    refuses(case, system, "NoPages", "count", step, process, 511, 2, *args, **named)


def give_file(system, name, contents):
    """Make a file with these contents."""
    create(system, name, len(contents))
    for index, content in enumerate(contents):
        if content != (0, 0, 0, 0):
            write_page(system, name, index, content)


def kept(system):
    """How many private classes and written object pages there are."""
    return sum(count(system)[:2])


def name_of(item):
    """ "private", ("object", number, index) or ("file", name, index)."""
    return "private" if item.source is None else item.source + (item.index,)


def touched(system):
    """The names of what was touched, in order."""
    return [name_of(item) for item in system.history.touches]


def cells(system, process, number):
    """The content that a page shows, without a step (None if it shows nothing)."""
    page = system.tables[process][number]
    if shows_nothing(system, page):
        return None
    item = shown(system, page)
    return (0, 0, 0, 0) if item is None else item.content


def has_frame(system, process, number):
    """Whether what a page shows is in memory."""
    return shown(system, system.tables[process][number]) in system.memory


def cached(system):
    """The names of what is in memory, sorted."""
    return sorted([name_of(item) for item in system.memory], key=str)


def asks_place(case, system, process, unmapped, question, *args, before=()):
    """The question checks its place (5.1): of anything, and ahead of what follows it."""
    for place in ODD + (None, (), (process,), (process, 0, 0), [process, 0], process):
        refuses(case, system, "NotMapped", place, question, *before, place, *args)
    for item in ODD + (None, 0, -1, 99, 10 ** 3000):
        refuses(case, system, "NoProcess", item, question, *before, (item, -1), *args)
    for number in ODD + (None, -1, 512, unmapped, 10 ** 3000):
        refuses(case, system, "NotMapped", number, question, *before, (process, number), *args)
