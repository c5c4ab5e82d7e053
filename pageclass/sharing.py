"""Who shares what, and what a write would do."""

from pageclass.checks import page_at, require, require_right, require_shown
from pageclass.pages import has_file
from pageclass.stores import shown, shows_nothing


def count(system):
    """How many private classes, written object pages, and file pages with a user there are (5.2)."""
    used = {}
    for table in system.tables.values():
        for page in table.values():
            if page.held is None and has_file(page) and not shows_nothing(system, page):
                used[(page.source[1], page.index)] = True
    written = len(system.object_pages)
    return len(system.classes) - written, written, len(used)


def same(system, one, other):
    """Whether two places show the same class (5.2)."""
    item = shown(system, page_at(system, one))
    other_item = shown(system, page_at(system, other))
    return item is not None and item == other_item


def users(system, place):
    """The sorted list of the users of what a place shows (5.2)."""
    item = shown(system, page_at(system, place))
    return [] if item is None else users_of(system, item)


def users_of(system, item):
    """The sorted list of the places that show an item."""
    found = []
    for process, table in system.tables.items():
        for number, page in table.items():
            if shown(system, page) == item:
                found.append((process, number))
    return sorted(found)


def next_write(system, place):
    """What a write to a place would do, or None if it would raise NoRight or PastEnd (5.3)."""
    page = page_at(system, place)
    if page.rights != "rw" or shows_nothing(system, page):
        return None
    return effect_of_write(system, page)


def effect_of_write(system, page):
    """What a write does to a page that can be written (5.3)."""
    if page.held is not None:
        return "place" if page.held.holders == 1 else "copy"
    if shown(system, page) is None:
        return "zeros"
    return "place" if page.shared else "file"


def pages_to_write(system, places):
    """The pages of a list of distinct places that can be written, by their places."""
    require(isinstance(places, list), "places")
    pages = {}
    for place in places:
        page = page_at(system, place)
        require_right(place[1], page, ("rw",))
        require_shown(system, place[1], page)
        require(place not in pages, "places")
        pages[place] = page
    return pages


def writes_of(system, places):
    """How many classes of zeros, copies and copies of file pages the writes of all places make (5.4)."""
    zeros = {}
    writers = {}
    file_copies = 0
    for place, page in pages_to_write(system, places).items():
        effect = effect_of_write(system, page)
        if effect == "zeros":
            # An object page becomes a class once, however many of its places are written.
            zeros[(page.source, page.index) if page.shared else place] = True
        elif effect == "copy":
            writers[page.held] = writers.get(page.held, 0) + 1
        elif effect == "file":
            file_copies += 1
    # If all holders of a class write it, the last one does so in place.
    copies = sum([min(many, item.holders - 1) for item, many in writers.items()])
    return len(zeros), copies, file_copies
