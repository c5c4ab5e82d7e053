"""The least number of faults, by a search through all choices of what leaves."""


def touches_of(history):
    """For each touch a name of the item, whether it had a position, and the names of the items locked before it."""
    lives = {}
    locked = []
    changes = {}
    for many, item, locks in history.lock_changes:
        changes.setdefault(many, []).append((item, locks))
    told = []
    for at, (item, distance) in enumerate(zip(history.touches, history.distances)):
        for other, locks in changes.get(at, []):
            if locks:
                locked.append(other)
            else:
                locked.remove(other)
        if distance is None:
            lives[item] = at
        told.append((lives[item], distance is not None, [lives[other] for other in locked]))
    return told


def least_faults(touches, frames):
    """All memories that are possible behind each touch, with the least number of faults on the way to each."""
    memories = {frozenset(): 0}
    for item, had_position, locked in touches:
        following = {}
        for memory, faults in memories.items():
            assert memory.issuperset(locked)
            if item in memory:
                options = [memory]
            else:
                faults += had_position
                options = [memory | {item}]
                if len(memory) == frames:
                    options = [memory - {other} | {item} for other in memory if other not in locked]
            for option in options:
                following[option] = min(faults, following.get(option, faults))
        memories = following
    return min(memories.values())
