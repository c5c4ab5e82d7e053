"""Locked pages, whose classes stay in memory."""

from pageclass.checks import numbers_of, require_mapped, require_shown, table_of
from pageclass.errors import NoLock
from pageclass.frames import touch
from pageclass.limits import require_room
from pageclass.pages import with_lock, with_stamp
from pageclass.rows import arrange_locked
from pageclass.stores import end_step, new_class, replace_pages, stamp_of


def lock(system, process, first, count):
    """Lock pages: each holds a class from then on, which cannot leave the memory (9.5)."""
    table = table_of(system, process)
    numbers = numbers_of(first, count)
    require_mapped(table, numbers)
    for number in numbers:
        if table[number].shared or table[number].rights != "rw":
            raise NoLock(number)
    for number in numbers:
        require_shown(system, number, table[number])
    require_frames_for_locks(system, len([number for number in numbers if "lock" not in table[number].flags]))
    require_room(system, len([number for number in numbers if table[number].held is None]))
    for number in numbers:
        lock_page(system, process, number)
    system.history.most_locked = max(system.history.most_locked, system.locked_pages)
    end_step(system)


def require_frames_for_locks(system, many):
    """Raise NoLock with None if so many more locked pages would leave no frame for others."""
    if system.frames is not None and system.locked_pages + many > system.frames - 1:
        raise NoLock(None)


def lock_page(system, process, number):
    """Let a page hold a class, if it is untouched, touch the class and lock it."""
    page = system.tables[process][number]
    # A page that holds a class no longer follows its file, but it keeps its stamp.
    kept = stamp_of(system, page)
    item = new_class(system, process, number) if page.held is None else page.held
    touch(system, item)
    locked = with_lock(with_stamp(system.tables[process][number], kept), True)
    replace_pages(system, process, {number: locked})
    arrange_locked(system.history)


def unlock(system, process, first, count):
    """Unlock pages (9.5)."""
    table = table_of(system, process)
    numbers = numbers_of(first, count)
    require_mapped(table, numbers)
    replace_pages(system, process, {number: with_lock(table[number], False) for number in numbers})
    end_step(system)
