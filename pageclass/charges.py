"""The charge of a system, its reserve, and the forks that fit."""

from pageclass.checks import table_of
from pageclass.limits import capacity, charge_of
from pageclass.sharing import effect_of_write, writes_of
from pageclass.stores import shows_nothing
from pageclass.systems import pages_of_child


def charge(system):
    """The charge of a system (9.1)."""
    return charge_of(system, {}, {})


def reserve(system):
    """How many writes that make a class are still possible (9.3)."""
    return charge(system) - len(system.classes)


def pages_that_can_be_written(system, process):
    """The pages of a process with the rights "rw" that are not past the end, by their numbers."""
    found = {}
    for number, page in system.tables[process].items():
        if page.rights == "rw" and not shows_nothing(system, page):
            found[number] = page
    return found


def writes_of_others(system, process):
    """What all other processes do if they write all that they can.

    It is a dict: for each class how many holders write it, and True for each object page, by its
    source and index, that is written at all.
    """
    found = {}
    for other in system.tables:
        if other != process:
            for page in pages_that_can_be_written(system, other).values():
                if page.held is not None:
                    found[page.held] = found.get(page.held, 0) + 1
                elif page.shared:
                    found[(page.source, page.index)] = True
    return found


def makes_at_last(system, process):
    """How many classes the writes of a process make if all others have written before (9.3)."""
    before = writes_of_others(system, process)
    made = {}
    writers = {}
    for number, page in pages_that_can_be_written(system, process).items():
        if page.held is not None:
            writers[page.held] = writers.get(page.held, 0) + 1
        elif page.shared and effect_of_write(system, page) == "zeros":
            made[(page.source, page.index)] = True
        elif not page.shared:
            made[number] = True
    # The others have made their copies and the object pages; the last holder writes in place.
    copies = sum([min(many, item.holders - before.get(item, 0) - 1) for item, many in writers.items()])
    return copies + len([key for key in made if key not in before])


def reserve_of(system, process):
    """The least and the greatest number of the reserve that is made by a process (9.3)."""
    table_of(system, process)
    places = [(process, number) for number in pages_that_can_be_written(system, process)]
    return makes_at_last(system, process), sum(writes_of(system, places))


def forks_that_fit(system, process):
    """How many forks of a process succeed in strict mode, or None (9.4)."""
    table = table_of(system, process)
    room = capacity(system)
    if room is None:
        return None
    before = charge(system)
    # Each fork raises the charge by the same number.
    raised = charge_of(system, {system.processes_made + 1: pages_of_child(system, table)}, {}) - before
    return None if raised == 0 else max(0, (room - before) // raised)
