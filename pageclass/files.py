"""Files, their cache and their disk."""

from pageclass.checks import file_of, is_integer, require
from pageclass.errors import NoFile, Taken
from pageclass.frames import forget_cached, put_content, save, this_step, touch
from pageclass.limits import require_charge_of_file
from pageclass.pages import CELLS, FILE_PAGES, LAST_CELL, ZEROS, Item, with_stamp
from pageclass.stores import end_step, replace_pages
from pageclass.systems import end_process, processes


def is_name(value):
    """Whether a value is a name (0.3)."""
    if not isinstance(value, str) or not 1 <= len(value) <= 8:
        return False
    return all(["a" <= letter <= "z" for letter in value])


def is_content(value):
    """Whether a value is the content of a page (2.1)."""
    if not isinstance(value, tuple) or len(value) != CELLS:
        return False
    return all([is_integer(cell, 0, LAST_CELL) for cell in value])


def new_pages_of_file(name, first, end):
    """New pages of a file, from an index up to an end."""
    return [Item(("file", name), index, ZEROS) for index in range(first, end)]


def all_file_pages(system):
    """The pages of all files."""
    return [item for pages in system.files.values() for item in pages]


def create(system, name, count):
    """Make a file of so many pages of zeros (3.1)."""
    if not is_name(name):
        raise NoFile(name)
    if name in system.files:
        raise Taken(name)
    require(is_integer(count, 0, FILE_PAGES), "count")
    system.files[name] = new_pages_of_file(name, 0, count)
    end_step(system)


def files(system):
    """The sorted list of the names of the files (3.1)."""
    return sorted(system.files)


def size(system, name):
    """The number of pages of a file (3.1)."""
    return len(file_of(system, name))


def file_page(system, name, index):
    """The page of a file that has an index."""
    pages = file_of(system, name)
    require(is_integer(index, 0, len(pages) - 1), "index")
    return pages[index]


def read_page(system, name, index):
    """The content of a page of a file (3.2)."""
    item = file_page(system, name, index)
    touch(system, item)
    end_step(system)
    return item.content


def write_page(system, name, index, content):
    """Change a page of a file as a whole (3.2)."""
    item = file_page(system, name, index)
    require(is_content(content), "content")
    touch(system, item)
    put_content(system, item, content)
    end_step(system)


def truncate(system, name, count):
    """Make a file shorter or longer, on the disk at once (3.4)."""
    pages = file_of(system, name)
    require(is_integer(count, 0, FILE_PAGES), "count")
    require_charge_of_file(system, name, count)
    for item in pages[count:]:
        forget_cached(system, item)
    stamp_pages_between(system, name, min(count, len(pages)), max(count, len(pages)))
    system.files[name] = pages[:count] + new_pages_of_file(name, len(pages), count)
    end_step(system)


def stamp_pages_between(system, name, first, end):
    """Stamp what shows pages of a file from an index up to an end, or would show them (10.1)."""
    for process in processes(system):
        changes = {}
        for number, page in system.tables[process].items():
            if page.source == ("file", name) and page.held is None and first <= page.index < end:
                changes[number] = with_stamp(page, this_step(system))
        replace_pages(system, process, changes)


def sync(system, name):
    """Write all dirty pages of a file back to the disk (3.3)."""
    for item in file_of(system, name):
        save(system, item)
    end_step(system)


def drop_cache(system):
    """Write all dirty pages of all files back; all of them leave the cache (3.3)."""
    for item in all_file_pages(system):
        save(system, item)
        forget_cached(system, item)
    end_step(system)


def disk(system, name):
    """The list of the contents that the disk has of a file (3.3)."""
    return [item.on_disk for item in file_of(system, name)]


def crash(system):
    """End all processes and lose the cache: files have what is on the disk (3.5)."""
    for process in processes(system):
        end_process(system, process)
    for item in all_file_pages(system):
        item.content = item.on_disk
        item.origin = None
        forget_cached(system, item)
    system.history.crashed = True
    end_step(system)
