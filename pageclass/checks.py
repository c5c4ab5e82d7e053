"""Checks of arguments. Each takes anything, also objects without a hash or with an odd ==."""

from pageclass.errors import NoFile, NoHistory, NoLock, NoPages, NoProcess, NoRight, NotMapped, PastEnd
from pageclass.pages import MOST_FRAMES, PAGES
from pageclass.stores import shows_nothing


def is_integer(value, low, high):
    """Whether a value is an integer from low to high."""
    return isinstance(value, int) and not isinstance(value, bool) and low <= value <= high


def is_natural(value):
    """Whether a value is an integer from 0 on."""
    return isinstance(value, int) and not isinstance(value, bool) and value >= 0


def is_word(value, words):
    """Whether a value is one of some strings."""
    return isinstance(value, str) and value in words


def require(valid, part):
    """Raise NoPages with the name of a parameter that is not valid."""
    if not valid:
        raise NoPages(part)


def table_of(system, process):
    """The mapped pages of a living process, by their numbers."""
    if not is_integer(process, 1, system.processes_made) or process not in system.tables:
        raise NoProcess(process)
    return system.tables[process]


def require_processes(system, some):
    """Raise NoProcess if the argument is not a tuple of distinct living processes (6.2)."""
    if not isinstance(some, tuple):
        raise NoProcess(some)
    seen = {}
    for process in some:
        table_of(system, process)
        if process in seen:
            raise NoProcess(process)
        seen[process] = True


def page_at(system, place):
    """The mapped page of a place (5.1)."""
    if not isinstance(place, tuple) or len(place) != 2:
        raise NotMapped(place)
    process, number = place
    table = table_of(system, process)
    if not is_integer(number, 0, PAGES - 1) or number not in table:
        raise NotMapped(number)
    return table[number]


def numbers_of(first, count):
    """The list of the numbers of a range of pages."""
    require(is_integer(first, 0, PAGES - 1), "first")
    require(is_integer(count, 1, PAGES - first), "count")
    return list(range(first, first + count))


def require_mapped(table, numbers):
    """Raise NotMapped for the first of some pages that is not mapped."""
    for number in numbers:
        if number not in table:
            raise NotMapped(number)


def require_unlocked(table, numbers):
    """Raise NoLock for the first locked one of some mapped pages."""
    for number in numbers:
        if "lock" in table[number].flags:
            raise NoLock(number)


def require_right(number, page, allowed):
    """Raise NoRight if the rights of a page are not among the allowed ones."""
    if page.rights not in allowed:
        raise NoRight(number)


def require_shown(system, number, page):
    """Raise PastEnd if a page shows nothing."""
    if shows_nothing(system, page):
        raise PastEnd(number)


def file_of(system, name):
    """The list of the pages of a file."""
    if not isinstance(name, str) or name not in system.files:
        raise NoFile(name)
    return system.files[name]


def require_frames(system, frames):
    """Raise NoPages if the history is not told for so many frames (7.3)."""
    require(is_integer(frames, system.history.most_locked + 1, MOST_FRAMES), "frames")


def require_history(system):
    """Raise NoHistory if a crash has ended the history (7.3)."""
    if system.history.crashed:
        raise NoHistory("a crash has ended the history")
