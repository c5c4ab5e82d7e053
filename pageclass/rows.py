"""The row of positions (7.2), and with it what systems with any number of frames have done (7.3).

A system with so many frames has in memory what has a position up to this number. So an item that
moves from a position to the next one leaves the memory of the system with so many frames.
"""

from heapq import heapify, heappop, heappush, heappushpop

from pageclass.pages import is_file_page


class History:
    """Where the items stand, and what was touched.

    row has the items by their positions (the first one at index 0), None where a position is free;
    holes are the free positions in the row, as a heap; locked are the locked items, which have the
    first positions, in their order; classes is the number of private classes and object pages in
    the row. touches are the touched items in their order, distances the positions that they had.

    The lists swap_outs, write_backs and most_slots have numbers by the number of frames; saves has,
    at an index, how many pages sync and drop_cache wrote back that were dirty from so many frames on.

    lock_changes has the tuples (number of touches so far, item, whether it is locked from then on);
    most_locked is the greatest number of locked pages at any time. crashed and merged tell whether
    there was a crash, and a merge that took a class away.
    """

    def __init__(self):
        self.row = []
        self.holes = []
        self.locked = []
        self.classes = 0
        self.touches = []
        self.distances = []
        self.swap_outs = [0]
        self.write_backs = [0]
        self.most_slots = [0]
        self.saves = [0]
        self.lock_changes = []
        self.most_locked = 0
        self.crashed = False
        self.merged = False


def is_locked(history, item):
    """Whether an item with a position is locked."""
    return item.position <= len(history.locked)


def record_touch(history, item):
    """Note a touch; the item gets the first position behind the locked ones, unless it is one of them."""
    history.touches.append(item)
    history.distances.append(item.position)
    if item.position is None:
        hole = take_hole(history)
        if not is_file_page(item):
            history.classes += 1
    elif is_locked(history, item):
        return
    else:
        history.row[item.position - 1] = None
        hole = heappushpop(history.holes, item.position)
    locked = len(history.locked)
    del history.row[hole - 1]
    history.row.insert(locked, item)
    item.position = locked + 1
    note_moves(history, item, hole)


def take_hole(history):
    """The first free position, for an item that had none."""
    if len(history.holes) > 0:
        return heappop(history.holes)
    history.swap_outs.append(0)
    history.write_backs.append(0)
    history.most_slots.append(0)
    history.saves.append(0)
    history.row.append(None)
    return len(history.row)


def note_moves(history, item, hole):
    """Note that the items behind a touched one have moved to the next positions, up to a hole."""
    row = history.row
    # Locked items are private classes; inside counts the classes with positions up to frames.
    inside = len(history.locked) if is_file_page(item) else len(history.locked) + 1
    for frames in range(item.position, hole):
        moved = row[frames]
        moved.position = frames + 1
        if is_file_page(moved):
            leave_cache(history, moved, frames)
        else:
            history.swap_outs[frames] += 1
            if history.most_slots[frames] < history.classes - inside:
                history.most_slots[frames] = history.classes - inside
            inside += 1


def leave_cache(history, item, frames):
    """A file page leaves the cache of the system with so many frames; it is written back if it is dirty."""
    if item.dirty_from is not None and item.dirty_from <= frames:
        history.write_backs[frames] += 1
        item.saved_with[frames] = item.content
        # It was dirty just where it never left the cache since it was written.
        item.dirty_from = frames + 1


def save_everywhere(history, item):
    """A file page is written back if it is dirty, in the systems with any number of frames."""
    if item.dirty_from is not None:
        history.saves[item.dirty_from] += 1
        item.dirty_from = None
    item.saved = item.content
    item.saved_with = {}


def free_position(history, item):
    """An item is gone, or leaves with the whole cache: its position is free."""
    if item.position is None:
        return
    history.row[item.position - 1] = None
    heappush(history.holes, item.position)
    item.position = None
    if not is_file_page(item):
        history.classes -= 1


def arrange_locked(history):
    """Let the locked items come first, then those that are locked no longer, then what is free (7.2)."""
    first = list(history.locked)
    add_locked(history, first)
    stay = [item for item in first if item.locks > 0]
    if len(stay) < len(first):
        put_first(history, first, stay)
    history.locked = stay


def add_locked(history, first):
    """Add to the items with the first positions the one behind them, if it has become locked."""
    # What becomes locked is touched, so it stands there.
    end = len(first)
    if end < len(history.row) and history.row[end] is not None and history.row[end].locks > 0:
        first.append(history.row[end])
        history.lock_changes.append((len(history.touches), history.row[end], True))


def put_first(history, first, stay):
    """Put the items of the first positions that stay locked ahead of the others."""
    loose = [item for item in first if item.locks == 0]
    for item in loose:
        history.lock_changes.append((len(history.touches), item, False))
    ordered = stay + [item for item in loose if item.position is not None]
    for k, item in enumerate(ordered):
        history.row[k] = item
        item.position = k + 1
    holes = [hole for hole in history.holes if hole > len(first)]
    for k in range(len(ordered), len(first)):
        history.row[k] = None
        holes.append(k + 1)
    heapify(holes)
    history.holes = holes
