"""The least number of faults that a choice of what leaves the memory can have."""

from heapq import heappop, heappush

from pageclass.checks import require_frames, require_history
from pageclass.errors import NoHistory


class Keeping:
    """What is kept in memory between two touches, as of one touch in the history.

    following has for each touch the next one of the same item that finds it with a position, or None.
    ends has the next touch of each item that was touched; kept has, as the keys of a dict, the next
    touches of the items that are in memory but could leave, and queue the negatives of these and of
    some others, as a heap; locked are the items that cannot leave, as the keys of a dict.
    """

    def __init__(self, following):
        self.following = following
        self.ends = {}
        self.kept = {}
        self.queue = []
        self.locked = {}


def following_touches(history):
    """For each touch the next one of the same item that finds it with a position, or None."""
    following = [None] * len(history.touches)
    later = {}
    for at in reversed(range(len(following))):
        item = history.touches[at]
        following[at] = later.get(item)
        later[item] = None if history.distances[at] is None else at
    return following


def keep(keeping, item):
    """An item that could leave stays in memory until its next touch."""
    end = keeping.ends[item]
    if end is not None and end not in keeping.kept:
        keeping.kept[end] = True
        heappush(keeping.queue, -end)


def let_leave(keeping, most):
    """So many items at most are kept beside the locked ones: those with the nearest next touches."""
    while len(keeping.kept) > most:
        # What is over ends earlier than all that is kept; what became locked is not kept, either.
        keeping.kept.pop(-heappop(keeping.queue), None)


def change_locks(keeping, changes):
    """Some items become locked, or are locked no longer."""
    for item, locks in changes:
        if locks:
            keeping.locked[item] = True
            keeping.kept.pop(keeping.ends[item], None)
        else:
            del keeping.locked[item]
            keep(keeping, item)


def lock_changes_behind(history):
    """The changes of locks, by the number of the touches before them."""
    changes = {}
    for touches, item, locks in history.lock_changes:
        changes.setdefault(touches, []).append((item, locks))
    return changes


def best_faults(system, frames):
    """The least number of faults of any choice of the items that leave (7.3)."""
    require_frames(system, frames)
    require_history(system)
    history = system.history
    if history.merged:
        raise NoHistory("a merge took classes away")
    return faults_of_best(history, frames)


def faults_of_best(history, frames):
    """The faults if always the item leaves whose next touch is the farthest."""
    changes = lock_changes_behind(history)
    keeping = Keeping(following_touches(history))
    found = 0
    for at, item in enumerate(history.touches):
        keeping.ends[item] = keeping.following[at]
        if item not in keeping.locked:
            if at in keeping.kept:
                del keeping.kept[at]
            elif history.distances[at] is not None:
                found += 1
            let_leave(keeping, frames - 1 - len(keeping.locked))
            keep(keeping, item)
        change_locks(keeping, changes.get(at + 1, []))
    return found
