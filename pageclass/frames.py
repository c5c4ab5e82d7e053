"""What is in memory, in slots and on the disk (3.3, 8.2).

Of a system these functions use: memory (the items in memory) and swapped (the private classes and
object pages in slots), both as the keys of a dict; classes (see pageclass.stores); faults, swap_outs
and write_backs, the numbers of 8.1; and history (see pageclass.rows).
"""

from pageclass.pages import is_file_page
from pageclass.rows import free_position, is_locked, record_touch, save_everywhere


def this_step(system):
    """The number that a step will have if it succeeds (0.4)."""
    return system.steps_made + 1


def touch(system, item):
    """Touch an item (7.1): it comes into memory, if it can."""
    if item not in system.memory:
        if item.position is not None:
            system.faults += 1
        if find_frame(system, item):
            system.swapped.pop(item, None)
            system.memory[item] = True
    record_touch(system.history, item)


def find_frame(system, item):
    """See to a free frame for an item that comes; return whether there is one."""
    if system.frames is None or len(system.memory) < system.frames:
        return True
    able = able_to_leave(system, item)
    if len(able) == 0:
        return False
    leave_memory(system, max(able, key=lambda other: other.position))
    return True


def able_to_leave(system, item):
    """The items in memory that can leave when an item comes, whose own slot is free then."""
    has_slot = system.slots is None or item in system.swapped or len(system.swapped) < system.slots
    loose = [other for other in system.memory if not is_locked(system.history, other)]
    return [other for other in loose if has_slot or is_file_page(other)]


def leave_memory(system, item):
    """Take an item out of memory: a file page goes to the disk, any other item into a slot."""
    del system.memory[item]
    if is_file_page(item):
        write_back(system, item)
    else:
        system.swapped[item] = True
        system.swap_outs += 1


def write_back(system, item):
    """Write a file page back to the disk if it is dirty."""
    if item.dirty:
        item.on_disk = item.content
        item.dirty = False
        system.write_backs += 1


def save(system, item):
    """Write a file page back as sync does, with any number of frames."""
    write_back(system, item)
    save_everywhere(system.history, item)


def put_content(system, item, content):
    """Write an item that was touched."""
    item.content = content
    item.origin = this_step(system)
    if is_file_page(item):
        item.dirty = True
        item.dirty_from = item.position
        # A page that could not come into the cache is written on the disk.
        if item not in system.memory:
            write_back(system, item)


def forget_class(system, item):
    """A private class or an object page is gone, from wherever it is kept."""
    del system.classes[item]
    system.memory.pop(item, None)
    system.swapped.pop(item, None)
    free_position(system.history, item)


def forget_cached(system, item):
    """A file page is no longer in the cache; what was dirty is lost."""
    item.dirty = False
    system.memory.pop(item, None)
    free_position(system.history, item)
