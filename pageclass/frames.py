"""What is in memory, in slots and on the disk (3.3, 8.2).

Of a system these functions use: memory (the items in memory) and swapped (the private classes and
object pages in slots), both as the keys of a dict, classes and touches (see pageclass.stores).
"""

from pageclass.pages import is_file_page


def touch(system, item):
    """Touch an item (7.1): it comes into memory, if it can."""
    system.touches.append(item)
    item.last_touch = len(system.touches)
    if item not in system.memory and find_frame(system, item):
        system.swapped.pop(item, None)
        system.memory[item] = True


def find_frame(system, item):
    """See to a free frame for an item that comes; return whether there is one."""
    if system.frames is None or len(system.memory) < system.frames:
        return True
    able = able_to_leave(system, item)
    if len(able) == 0:
        return False
    # The item touched least recently has the greatest position of all in memory.
    leave_memory(system, min(able, key=lambda other: other.last_touch))
    return True


def able_to_leave(system, item):
    """The items in memory that can leave when an item comes, whose own slot is free then."""
    has_slot = system.slots is None or item in system.swapped or len(system.swapped) < system.slots
    return [other for other in system.memory if has_slot or is_file_page(other)]


def leave_memory(system, item):
    """Take an item out of memory: a file page goes to the disk, any other item into a slot."""
    del system.memory[item]
    if is_file_page(item):
        write_back(item)
    else:
        system.swapped[item] = True


def write_back(item):
    """Write a file page back to the disk; a clean one is the same there."""
    item.on_disk = item.content


def put_content(system, item, content):
    """Change an item that was touched."""
    item.content = content
    # Of what was touched only a file page can be out of memory: it is written on the disk then.
    if item not in system.memory:
        write_back(item)


def forget_class(system, item):
    """A private class or an object page is gone, from wherever it is kept."""
    del system.classes[item]
    system.memory.pop(item, None)
    system.swapped.pop(item, None)


def forget_cached(system, item):
    """A file page is no longer in the cache; what was dirty is lost."""
    system.memory.pop(item, None)
