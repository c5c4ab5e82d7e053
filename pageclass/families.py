"""Families: all that is needed to make some processes again."""

from pageclass.checks import file_of, require_processes
from pageclass.frames import this_step, touch
from pageclass.limits import require_charge, require_room
from pageclass.pages import Item, has_file, has_object, with_held, with_lock, with_source, with_stamp
from pageclass.stores import end_step, replace_pages, shown


class Family:
    """Processes to make again, or those that were made of them.

    tables are their pages, process by process; each private class is an item that belongs to no
    system yet, and is the same for all its holders. written has the items of the written object
    pages, by object and index.
    """

    def __init__(self, tables, written):
        self.tables = tables
        self.written = written


def family(system, some):
    """A family of living processes, which does not change with the system (11.1)."""
    require_processes(system, some)
    written = {}
    for process in some:
        for page in system.tables[process].values():
            item = shown(system, page)
            if has_object(page) and item is not None:
                written[(page.source[1], page.index)] = item
    return copy_of(Family([system.tables[process] for process in some], written), None)


def copy_of(members, step):
    """The same processes with items of their own, whose origin is a step."""
    classes = {}
    for table in members.tables:
        for page in table.values():
            if page.held is not None and page.held not in classes:
                classes[page.held] = copied_item(page.held, step)
    tables = []
    for table in members.tables:
        tables.append({number: copied_page(page, classes, step) for number, page in table.items()})
    return Family(tables, {key: copied_item(item, step) for key, item in members.written.items()})


def copied_item(item, step):
    """An item with the same content that was not touched, and whose origin is a step."""
    copied = Item(item.source, item.index, item.content)
    copied.origin = step
    return copied


def copied_page(page, classes, step):
    """A page with the copy of its class, and without a lock, whose stamp is a step."""
    held = None if page.held is None else classes[page.held]
    return with_stamp(with_held(with_lock(page, False), held), step)


def require_files(system, members):
    """Raise NoFile for the least name of a file that does not exist."""
    names = {}
    for table in members.tables:
        for page in table.values():
            if has_file(page):
                names[page.source[1]] = True
    for name in sorted(names):
        file_of(system, name)


def give_new_objects(system, members):
    """Give the processes objects of their own, numbered as their regions first name them; return how many."""
    objects = {}
    for table in members.tables:
        for number in sorted(table):
            page = table[number]
            if has_object(page):
                source = objects.setdefault(page.source, ("object", system.objects_made + len(objects) + 1))
                table[number] = with_source(page, source)
    written = {}
    for (number, index), item in members.written.items():
        item.source = objects[("object", number)]
        written[(item.source[1], index)] = item
    members.written = written
    return len(objects)


def new_items(members):
    """The private classes and object pages of some processes, as the keys of a dict."""
    items = {item: True for item in members.written.values()}
    for table in members.tables:
        for page in table.values():
            if page.held is not None:
                items[page.held] = True
    return items


def restore(system, family):
    """Make the processes of a family again and return the list of their numbers (11.1)."""
    require_files(system, family)
    made = copy_of(family, this_step(system))
    objects = give_new_objects(system, made)
    items = new_items(made)
    first = system.processes_made + 1
    tables = {first + k: table for k, table in enumerate(made.tables)}
    require_charge(system, tables, made.written)
    require_room(system, len(items))
    system.processes_made += len(tables)
    system.objects_made += objects
    for item in items:
        system.classes[item] = True
    for key, item in made.written.items():
        system.object_pages[key] = item
    for process, table in tables.items():
        system.tables[process] = {}
        replace_pages(system, process, table)
    touch_new_items(system, list(tables))
    end_step(system)
    return list(tables)


def touch_new_items(system, made):
    """Touch the new private classes and object pages by their least places among some processes."""
    for process in made:
        table = system.tables[process]
        for number in sorted(table):
            item = shown(system, table[number])
            if item in system.classes and item.position is None:
                touch(system, item)
