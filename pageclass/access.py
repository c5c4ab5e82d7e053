"""Reads and writes of the cells of pages, and what else reaches the contents of a range."""

from pageclass.checks import is_integer, numbers_of, require, require_mapped, require_right
from pageclass.checks import require_shown, require_unlocked, table_of
from pageclass.frames import put_content, this_step, touch
from pageclass.limits import require_room
from pageclass.pages import CELLS, LAST_ADDRESS, LAST_CELL, with_cell, with_held, with_stamp
from pageclass.stores import end_step, item_to_write, makes_class, replace_pages, shown


def read(system, process, address):
    """The cell that a page shows at an address (2.3)."""
    table = table_of(system, process)
    require(is_integer(address, 0, LAST_ADDRESS), "address")
    number, cell = divmod(address, CELLS)
    require_mapped(table, [number])
    page = table[number]
    require_right(number, page, ("r", "rw"))
    require_shown(system, number, page)
    item = shown(system, page)
    if item is not None:
        touch(system, item)
    end_step(system)
    return 0 if item is None else item.content[cell]


def write(system, process, address, value):
    """Change one cell (2.3, 2.4)."""
    table = table_of(system, process)
    require(is_integer(address, 0, LAST_ADDRESS), "address")
    require(is_integer(value, 0, LAST_CELL), "value")
    number, cell = divmod(address, CELLS)
    require_mapped(table, [number])
    page = table[number]
    require_right(number, page, ("rw",))
    require_shown(system, number, page)
    if makes_class(system, page):
        require_room(system, 1)
    item = item_to_write(system, process, number)
    touch(system, item)
    put_content(system, item, with_cell(item.content, cell, value))
    if not page.shared:
        replace_pages(system, process, {number: with_stamp(table[number], this_step(system))})
    end_step(system)


def need(system, process, first, count):
    """Touch what the pages of a range show, in ascending order (2.5)."""
    table = table_of(system, process)
    numbers = numbers_of(first, count)
    require_mapped(table, numbers)
    for number in numbers:
        item = shown(system, table[number])
        if item is not None and table[number].rights != "none":
            touch(system, item)
    end_step(system)


def drop(system, process, first, count):
    """Make the private pages of a range untouched (2.5)."""
    table = table_of(system, process)
    numbers = numbers_of(first, count)
    require_mapped(table, numbers)
    require_unlocked(table, numbers)
    changes = {}
    for number in numbers:
        if not table[number].shared:
            changes[number] = with_stamp(with_held(table[number], None), this_step(system))
    replace_pages(system, process, changes)
    end_step(system)
