"""The pages of a process: mapping, attributes, regions and gaps."""

from pageclass.checks import file_of, is_integer, is_word, numbers_of, require, require_mapped
from pageclass.checks import require_unlocked, table_of
from pageclass.frames import this_step
from pageclass.limits import require_charge
from pageclass.pages import FLAGS, PAGES, RIGHTS, Page, attributes, with_flags, with_rights, with_stamp
from pageclass.stores import end_step, replace_pages


def require_source(system, source, shared):
    """Raise NoFile or NoPages if a source does not exist, or does not fit shared (1.3)."""
    if source is None:
        return
    require(isinstance(source, tuple) and len(source) == 2, "source")
    kind, named = source
    require(is_word(kind, ("file", "object")), "source")
    if kind == "file":
        file_of(system, named)
    else:
        require(shared and is_integer(named, 1, system.objects_made) and named in system.objects, "source")


def place_for(table, count, at):
    """The first of so many pages to map: at, or, if it is None, that of the lowest gap (1.3)."""
    first = lowest_gap(table, count) if at is None else at
    require(is_integer(first, 0, PAGES - count), "at")
    return first


def map_pages(system, process, count, *, rights="rw", shared=False, source=None, index=0, at=None):
    """Map pages with running indexes and return the first one (1.3)."""
    table = table_of(system, process)
    require(is_integer(count, 1, PAGES), "count")
    require(is_word(rights, RIGHTS), "rights")
    require(isinstance(shared, bool), "shared")
    require_source(system, source, shared)
    require(is_integer(index, 0, 0 if source is None else PAGES - count), "index")
    first = place_for(table, count, at)
    makes_object = shared and source is None
    shows = ("object", system.objects_made + 1) if makes_object else source
    pages = new_pages(first, count, Page(rights, shared, shows, index, (), None, this_step(system)))
    require_charge(system, {process: {**table, **pages}}, {})
    if makes_object:
        system.objects_made += 1
    replace_pages(system, process, pages)
    end_step(system)
    return first


def new_pages(first, count, page):
    """Pages like a given one, with running indexes from its index on, by their numbers."""
    pages = {}
    for k in range(count):
        index = None if page.source is None else page.index + k
        pages[first + k] = Page(page.rights, page.shared, page.source, index, page.flags, page.held, page.stamp)
    return pages


def unmap(system, process, first, count):
    """Unmap the mapped pages of a range (1.4)."""
    table = table_of(system, process)
    numbers = numbers_of(first, count)
    replace_pages(system, process, {number: None for number in numbers if number in table})
    end_step(system)


def protect(system, process, first, count, rights):
    """Change the rights of mapped pages (1.4)."""
    table = table_of(system, process)
    numbers = numbers_of(first, count)
    require(is_word(rights, RIGHTS), "rights")
    require_mapped(table, numbers)
    if rights != "rw":
        require_unlocked(table, numbers)
    pages = {number: with_rights(table[number], rights) for number in numbers}
    require_charge(system, {process: {**table, **pages}}, {})
    replace_pages(system, process, pages)
    end_step(system)


def flags_with(flags, wanted):
    """The flags with those set and cleared that a dict wants True or False."""
    chosen = {name: name in flags for name in FLAGS}
    for name, choice in wanted.items():
        if choice is not None:
            chosen[name] = choice
    return tuple([name for name in FLAGS if chosen[name]])


def flag(system, process, first, count, *, merge=None, stay=None, wipe=None):
    """Set or clear flags of mapped pages (1.4)."""
    table = table_of(system, process)
    numbers = numbers_of(first, count)
    wanted = {"merge": merge, "stay": stay, "wipe": wipe}
    for name, choice in wanted.items():
        require(choice is None or isinstance(choice, bool), name)
    require_mapped(table, numbers)
    pages = {}
    for number in numbers:
        pages[number] = with_flags(table[number], flags_with(table[number].flags, wanted))
    replace_pages(system, process, pages)
    end_step(system)


def move(system, process, first, count, to):
    """Move mapped pages, with their attributes and what they hold (1.4)."""
    table = table_of(system, process)
    numbers = numbers_of(first, count)
    require(is_integer(to, 0, PAGES - count) and (to + count <= first or first + count <= to), "to")
    require_mapped(table, numbers)
    changes = {number: None for number in numbers}
    for number in numbers:
        changes[to + number - first] = with_stamp(table[number], this_step(system))
    replace_pages(system, process, changes)
    end_step(system)


def continues(last, page):
    """Whether a page belongs to the region of the page before it (1.6)."""
    index = None if last.source is None else last.index + 1
    return attributes(page) == (last.rights, last.shared, last.source, index, last.flags)


def regions(system, process):
    """The sorted list of the regions of a process (1.6)."""
    table = table_of(system, process)
    runs = []
    for number in sorted(table):
        if number - 1 in table and continues(table[number - 1], table[number]):
            runs[-1][1] += 1
        else:
            runs.append([number, 1])
    return [(first, count) + attributes(table[first]) for first, count in runs]


def free_runs(table):
    """For each page the number of unmapped pages in a row of which it is the last."""
    runs = []
    run = 0
    for number in range(PAGES):
        run = 0 if number in table else run + 1
        runs.append(run)
    return runs


def lowest_gap(table, count):
    """The first page of the lowest gap of so many unmapped pages, or None."""
    for number, run in enumerate(free_runs(table)):
        if run == count:
            return number - count + 1
    return None


def gap(system, process, count):
    """The first page of the lowest gap of so many unmapped pages, or None (1.6)."""
    table = table_of(system, process)
    require(is_integer(count, 1, PAGES), "count")
    return lowest_gap(table, count)


def widest(system, process):
    """The greatest number of unmapped pages in a row (1.6)."""
    return max(free_runs(table_of(system, process)))
