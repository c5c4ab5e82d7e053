"""The limits that frames and slots set: the charge in strict mode (9.1, 9.3), and room (8.3)."""

from pageclass.errors import NoCharge, NoRoom
from pageclass.pages import has_object
from pageclass.stores import shown, shows_nothing


def capacity(system):
    """Frames and slots together, or None if one of them is without limit."""
    if system.frames is None or system.slots is None:
        return None
    return system.frames + system.slots


def require_room(system):
    """Raise NoRoom if there is no room for another class."""
    room = capacity(system)
    if room is not None and len(system.classes) >= room:
        raise NoRoom("no frame and no slot is free")


def charge_of(system, tables):
    """What the charge is if the processes have these tables of pages (9.1)."""
    charge = 0
    # What counts once, however many pages there are: the holders of a class that cannot write it,
    # by their class, and an object page, by its place in its object.
    once = {}
    for table in tables:
        for page in table.values():
            writable = page.rights == "rw"
            if page.held is not None and not writable:
                once[page.held] = True
            elif has_object(page):
                if writable or shown(system, page) is not None:
                    once[(page.source, page.index)] = True
            elif writable and not page.shared and not shows_nothing(system, page):
                charge += 1
    return charge + len(once)


def require_charge(system, process, table):
    """Raise NoCharge if strict mode forbids that a process, a new one too, has this table (9.3)."""
    if not system.strict:
        return
    tables = {**system.tables, process: table}
    charge = charge_of(system, list(tables.values()))
    if charge > capacity(system) and charge > charge_of(system, list(system.tables.values())):
        raise NoCharge("the charge would exceed frames and slots")
