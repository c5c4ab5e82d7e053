"""The positions of items, and what systems with any number of frames have done."""

from pageclass.checks import file_of, is_natural, page_at, require, require_frames, require_history
from pageclass.sharing import users_of
from pageclass.stores import shown


def position(system, place):
    """The position of what a place shows, or None (7.2)."""
    item = shown(system, page_at(system, place))
    return None if item is None else item.position


def at_position(system, number):
    """What has a position, or None if it is free (7.2)."""
    require(is_natural(number) and number >= 1, "number")
    row = system.history.row
    item = row[number - 1] if number <= len(row) else None
    if item is None:
        return None
    if item.source is None:
        return ("private", users_of(system, item))
    return (item.source[0], item.source[1], item.index)


def known_distances(system):
    """The positions of the touched items that had one."""
    return [distance for distance in system.history.distances if distance is not None]


def faults(system, frames):
    """The number of faults with so many frames (7.3)."""
    require_frames(system, frames)
    require_history(system)
    return len([distance for distance in known_distances(system) if distance > frames])


def least_frames(system, count):
    """The least number of frames with at most so many faults (7.3)."""
    require(is_natural(count), "count")
    require_history(system)
    least = system.history.most_locked + 1
    farthest = sorted(known_distances(system), reverse=True)
    return max(least, farthest[count]) if count < len(farthest) else least


def by_frames(numbers, frames):
    """The number for so many frames; behind the end of the list it is 0."""
    return numbers[frames] if frames < len(numbers) else 0


def swap_outs(system, frames):
    """How many times a private class or an object page left the memory (7.3)."""
    require_frames(system, frames)
    require_history(system)
    return by_frames(system.history.swap_outs, frames)


def write_backs(system, frames):
    """How many times a file page was written back (7.3)."""
    require_frames(system, frames)
    require_history(system)
    # What was dirty from fewer frames on was dirty with so many, too.
    saved = sum(system.history.saves[:frames + 1])
    return saved + by_frames(system.history.write_backs, frames)


def least_slots(system, frames):
    """The greatest number of slots that were used at one time (7.3)."""
    require_frames(system, frames)
    require_history(system)
    return by_frames(system.history.most_slots, frames)


def disk_if(system, frames, name):
    """The list of the contents that the disk would have of a file (7.3)."""
    require_frames(system, frames)
    pages = file_of(system, name)
    require_history(system)
    return [item.saved_with.get(frames, item.saved) for item in pages]


def distances(system):
    """For each touch the position that the item had, or None (7.4)."""
    return list(system.history.distances)


def require_log(system, log):
    """Raise NoPages if a log does not tell for each touch whether it was a fault (7.4)."""
    known = system.history.distances
    require(isinstance(log, list) and len(log) == len(known), "log")
    for distance, fault in zip(known, log):
        require(isinstance(fault, bool) and not (fault and distance is None), "log")


def fits(system, log):
    """The least and the greatest number of frames with just these faults, or None (7.4)."""
    require_log(system, log)
    require_history(system)
    least = system.history.most_locked + 1
    greatest = None
    for distance, fault in zip(system.history.distances, log):
        if fault:
            greatest = distance - 1 if greatest is None else min(greatest, distance - 1)
        elif distance is not None:
            least = max(least, distance)
    if greatest is not None and greatest < least:
        return None
    return least, greatest


def working(system, count):
    """How many different items the last touches touched (7.4)."""
    require(is_natural(count), "count")
    touches = system.history.touches
    return len({item: True for item in touches[max(0, len(touches) - count):]})
