"""Items and mapped pages, and the numbers that bound them."""

PAGES = 512
FILE_PAGES = 64
MOST_FRAMES = 999
CELLS = 4
LAST_ADDRESS = 2047
LAST_CELL = 255
ZEROS = (0, 0, 0, 0)
RIGHTS = ("none", "r", "rw")
FLAGS = ("lock", "merge", "stay", "wipe")


class Item:
    """A stored content: a private class (without a source), an object page or a file page.

    origin is the number of the step of the last write to it, None if there was none (10.1); position
    is its position, None if it has none (7.2). holders is the number of private pages that
    hold the class, and locks the number of the locked ones; only private classes have some.

    The rest is about file pages. dirty tells whether the cache has what the disk has not, on_disk
    what the disk has. The same for systems with any number of frames (7.3): there the page is dirty
    from dirty_from frames on (None: it is clean everywhere), saved is what all their disks had at
    one time, and saved_with what was written back since, by the number of frames.
    """

    def __init__(self, source, index, content):
        self.source = source
        self.index = index
        self.content = content
        self.origin = None
        self.position = None
        self.holders = 0
        self.locks = 0
        self.dirty = False
        self.on_disk = content
        self.dirty_from = None
        self.saved = content
        self.saved_with = {}


class Page:
    """A mapped page: its attributes, and the private class that it holds (None if it holds none).

    stamp is the number of the last step that changed what it shows, but for writes to an object page
    or a file page that it shows: their origin tells them (10.1). A page is never changed, only
    replaced: so what a step would do can be judged before it is done.
    """

    def __init__(self, rights, shared, source, index, flags, held, stamp):
        self.rights = rights
        self.shared = shared
        self.source = source
        self.index = index
        self.flags = flags
        self.held = held
        self.stamp = stamp


def with_rights(page, rights):
    """The page with other rights."""
    return Page(rights, page.shared, page.source, page.index, page.flags, page.held, page.stamp)


def with_flags(page, flags):
    """The page with other flags."""
    return Page(page.rights, page.shared, page.source, page.index, flags, page.held, page.stamp)


def with_lock(page, locked):
    """The page with the flag "lock", or without it."""
    words = {name: name in page.flags for name in FLAGS}
    words["lock"] = locked
    return with_flags(page, tuple([name for name in FLAGS if words[name]]))


def with_held(page, held):
    """The page with another private class, or untouched (None)."""
    return Page(page.rights, page.shared, page.source, page.index, page.flags, held, page.stamp)


def with_source(page, source):
    """The page with another source of the same kind."""
    return Page(page.rights, page.shared, source, page.index, page.flags, page.held, page.stamp)


def with_stamp(page, stamp):
    """The page with another stamp."""
    return Page(page.rights, page.shared, page.source, page.index, page.flags, page.held, stamp)


def attributes(page):
    """The attributes of a page, in the order in which a region lists them."""
    return (page.rights, page.shared, page.source, page.index, page.flags)


def is_file_page(item):
    """Whether an item is a page of a file."""
    return item.source is not None and item.source[0] == "file"


def has_object(page):
    """Whether a page shows a page of an object."""
    return page.shared and page.source[0] == "object"


def has_file(page):
    """Whether a page has a file as its source."""
    return page.source is not None and page.source[0] == "file"


def with_cell(content, cell, value):
    """The content with another value in one cell."""
    return content[:cell] + (value,) + content[cell + 1:]
