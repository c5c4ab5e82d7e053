"""What a system keeps: which item a page shows, and when items come into being and go.

Of a system these functions use: tables (the pages of each process), objects (of each object the
number of users of each of its pages), object_pages (the written ones, by object and index), files
(of each file the list of its pages), classes (all private classes and written object pages, as the
keys of a dict), and locked_pages (the number of pages with the flag "lock"). Where the items are
kept is told in pageclass.frames, which positions they have in pageclass.rows.
"""

from pageclass.frames import forget_class, touch
from pageclass.pages import ZEROS, Item, has_file, has_object, with_held
from pageclass.rows import arrange_locked


def shows_nothing(system, page):
    """Whether a page is past the end of its file and holds no class (2.2)."""
    if page.held is not None or not has_file(page):
        return False
    return page.index >= len(system.files[page.source[1]])


def shown(system, page):
    """The item that a page shows; None for zeros of no class, and for nothing (2.2)."""
    if page.held is not None:
        return page.held
    if page.source is None or shows_nothing(system, page):
        return None
    if has_object(page):
        return system.object_pages.get((page.source[1], page.index))
    return system.files[page.source[1]][page.index]


def stamp_of(system, page):
    """The stamp of a page (10.1)."""
    item = shown(system, page)
    # What writes a private class stamps the page itself.
    if page.held is not None or item is None or item.origin is None:
        return page.stamp
    return max(page.stamp, item.origin)


def makes_class(system, page):
    """Whether a write to a page makes a private class or an object page (2.4)."""
    if page.shared:
        return shown(system, page) is None
    return page.held is None or page.held.holders > 1


def new_object_page(system, page):
    """Make the object page of a shared page a class of zeros."""
    item = Item(page.source, page.index, ZEROS)
    system.object_pages[(page.source[1], page.index)] = item
    system.classes[item] = True
    return item


def new_class(system, process, number):
    """Give a private page a class of its own, of what it shows; what is copied is touched."""
    page = system.tables[process][number]
    old = shown(system, page)
    if old is not None:
        touch(system, old)
    item = Item(None, None, ZEROS if old is None else old.content)
    item.origin = None if old is None else old.origin
    system.classes[item] = True
    replace_pages(system, process, {number: with_held(page, item)})
    return item


def item_to_write(system, process, number):
    """The item that a write to a page changes, made first if need be (2.4)."""
    page = system.tables[process][number]
    if not makes_class(system, page):
        return shown(system, page)
    if page.shared:
        return new_object_page(system, page)
    return new_class(system, process, number)


def count_page(system, page):
    """Count a page among the holders of its class or the users of its object page."""
    held = page.held
    if held is not None:
        held.holders += 1
        count_lock(system, page, 1)
    elif has_object(page):
        users = system.objects.setdefault(page.source[1], {})
        users[page.index] = users.get(page.index, 0) + 1


def count_lock(system, page, by):
    """Add a number to the locked pages, if a page is one; it holds a class then."""
    if "lock" in page.flags:
        page.held.locks += by
        system.locked_pages += by


def discount_page(system, page):
    """Undo count_page; a class, an object page or an object that nobody uses any more is gone (2.1, 1.3)."""
    held = page.held
    if held is not None:
        held.holders -= 1
        count_lock(system, page, -1)
        if held.holders == 0:
            forget_class(system, held)
    elif has_object(page):
        discount_user(system, page.source[1], page.index)


def discount_user(system, number, index):
    """Take one user from an object page."""
    users = system.objects[number]
    users[index] -= 1
    if users[index] > 0:
        return
    del users[index]
    if (number, index) in system.object_pages:
        forget_class(system, system.object_pages[(number, index)])
        del system.object_pages[(number, index)]
    if len(users) == 0:
        del system.objects[number]


def replace_pages(system, process, changes):
    """Put pages at some numbers of a process, or unmap what is there (None).

    The new pages are counted ahead of the old ones: what a new page shows must not vanish in between.
    """
    table = system.tables[process]
    replaced = [table[number] for number in changes if number in table]
    for page in changes.values():
        if page is not None:
            count_page(system, page)
    for page in replaced:
        discount_page(system, page)
    for number, page in changes.items():
        if page is not None:
            table[number] = page
        elif number in table:
            del table[number]


def end_step(system):
    """Give the step that succeeds its number (0.4)."""
    arrange_locked(system.history)
    system.steps_made += 1
