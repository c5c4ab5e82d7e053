"""Merging of private classes with equal contents."""

from pageclass.pages import with_held
from pageclass.stores import end_step, replace_pages
from pageclass.systems import processes


def classes_to_merge(system):
    """The private classes of which a holder has the flag "merge", by their positions."""
    found = {}
    for table in system.tables.values():
        for page in table.values():
            if page.held is not None and "merge" in page.flags:
                found[page.held] = True
    return sorted(list(found), key=lambda item: item.position)


def heirs_of(classes):
    """For each class that goes the one that is left, the first one with its content."""
    left = {}
    heirs = {}
    for item in classes:
        heir = left.setdefault(item.content, item)
        if heir != item:
            heirs[item] = heir
    return heirs


def greatest_origin(item, other):
    """The greater one of the origins of two classes; None is the least (10.1)."""
    if item.origin is None or other.origin is None:
        return item.origin if other.origin is None else other.origin
    return max(item.origin, other.origin)


def merge(system):
    """Leave one of the classes to merge with equal contents; return how many are gone (4.1)."""
    # The class that is left is the one with the least position. So it is locked if one of them is,
    # and in memory if one of them is: what leaves is the class in memory with the greatest position.
    heirs = heirs_of(classes_to_merge(system))
    for item, heir in heirs.items():
        heir.origin = greatest_origin(item, heir)
    for process in processes(system):
        table = system.tables[process]
        changes = {}
        for number, page in table.items():
            if page.held in heirs:
                changes[number] = with_held(page, heirs[page.held])
        replace_pages(system, process, changes)
    if len(heirs) > 0:
        system.history.merged = True
    end_step(system)
    return len(heirs)
