"""When pages changed, and pictures of processes."""

from pageclass.checks import is_natural, page_at, require, table_of
from pageclass.pages import ZEROS
from pageclass.spaces import regions
from pageclass.stores import shown, shows_nothing, stamp_of


def stamp(system, place):
    """The number of the last step that changed what a page shows, or that mapped, moved or dropped it (10.1)."""
    return stamp_of(system, page_at(system, place))


def origin(system, place):
    """The number of the step of the last write to the item that a place shows, or None (10.1)."""
    item = shown(system, page_at(system, place))
    return None if item is None else item.origin


def changed(system, process, since):
    """The sorted list of the pages with a stamp greater than since (10.1)."""
    table = table_of(system, process)
    require(is_natural(since), "since")
    return [number for number in sorted(table) if stamp_of(system, table[number]) > since]


def content_of(system, page):
    """The content that a page shows, None if it shows nothing."""
    if shows_nothing(system, page):
        return None
    item = shown(system, page)
    return ZEROS if item is None else item.content


def contents_of(system, process, numbers):
    """Tuples of some pages and their contents."""
    table = system.tables[process]
    return tuple([(number, content_of(system, table[number])) for number in numbers])


def picture(system, process):
    """The regions of a process and the contents of all its pages (10.2)."""
    table = table_of(system, process)
    return tuple(regions(system, process)), contents_of(system, process, sorted(table))


def increment(system, process, since):
    """The regions of a process and the contents of its changed pages (10.2)."""
    numbers = changed(system, process, since)
    return tuple(regions(system, process)), contents_of(system, process, numbers)


def compose(picture, increment):
    """The picture with the regions and the contents of an increment (10.2)."""
    contents = {number: content for number, content in picture[1]}
    for number, content in increment[1]:
        contents[number] = content
    inside = {}
    for region in increment[0]:
        for number in range(region[0], region[0] + region[1]):
            inside[number] = True
    kept = [(number, contents[number]) for number in sorted(contents) if number in inside]
    return tuple(increment[0]), tuple(kept)
