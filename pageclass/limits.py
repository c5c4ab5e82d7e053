"""The limits that frames and slots set: the charge in strict mode (9.1, 9.3), and room (8.3)."""

from pageclass.errors import NoCharge, NoRoom
from pageclass.pages import has_object
from pageclass.stores import shows_nothing


def capacity(system):
    """Frames and slots together, or None if one of them is without limit."""
    if system.frames is None or system.slots is None:
        return None
    return system.frames + system.slots


def require_room(system, many):
    """Raise NoRoom if there is no room for so many other classes."""
    room = capacity(system)
    if room is not None and len(system.classes) + many > room:
        raise NoRoom("no frame and no slot is free")


def unit_of_charge(system, place, page, written):
    """The unit of the charge to which a page belongs, or None (9.1).

    What counts once, however many pages there are, is named by the class, for its holders that
    cannot write it, or by the place in its object; the unit of a page alone by the page's place.
    """
    writable = page.rights == "rw"
    if page.held is not None and not writable:
        return page.held
    if has_object(page):
        key = (page.source[1], page.index)
        return (page.source, page.index) if writable or key in system.object_pages or key in written else None
    return place if writable and not page.shared and not shows_nothing(system, page) else None


def charge_units(system, tables, written):
    """The units of the charge if some processes, new ones too, have these tables of pages (9.1).

    written has the object pages that are written beside those of the system. Each unit has the
    processes to whose pages it is due, as the keys of a dict: it is there as long as one of them is.
    """
    units = {}
    for process, table in {**system.tables, **tables}.items():
        for number, page in table.items():
            unit = unit_of_charge(system, (process, number), page, written)
            if unit is not None:
                due = units.setdefault(unit, {})
                due[process] = True
    return units


def charge_of(system, tables, written):
    """The charge if some processes have these tables of pages, and these object pages are written."""
    return len(charge_units(system, tables, written))


def require_capacity(system, after, before):
    """Raise NoCharge if strict mode forbids that a step makes the charge so great (9.3)."""
    if after > capacity(system) and after > before:
        raise NoCharge("the charge would exceed frames and slots")


def require_charge(system, tables, written):
    """Raise NoCharge if strict mode forbids that processes have these tables, and these pages are written (9.3)."""
    if system.strict:
        require_capacity(system, charge_of(system, tables, written), charge_of(system, {}, {}))


def require_charge_of_file(system, name, count):
    """Raise NoCharge if strict mode forbids that a file gets so many pages (9.3)."""
    if system.strict:
        before = charge_of(system, {}, {})
        require_capacity(system, before + untouched_up_to(system, name, count), before)


def untouched_up_to(system, name, count):
    """How many untouched pages that can be written are past the end of a file, but not of so many pages."""
    end = len(system.files[name])
    found = 0
    for table in system.tables.values():
        for page in table.values():
            untouched = page.held is None and not page.shared and page.rights == "rw"
            if untouched and page.source == ("file", name) and end <= page.index < count:
                found += 1
    return found
