"""All questions about a system, asked with arguments that fit its state."""

from pageclass import errors
from pageclass.charges import charge, forks_that_fit, reserve, reserve_of
from pageclass.choices import best_faults
from pageclass.exits import exits_for, frees, least_exits, share
from pageclass.files import disk, files, size
from pageclass.memory import counts, in_memory
from pageclass.pictures import changed, increment, origin, picture, stamp
from pageclass.positions import (at_position, disk_if, distances, faults, fits, least_frames, least_slots, position,
                                 swap_outs, working, write_backs)
from pageclass.sharing import count, next_write, same, users, writes_of
from pageclass.spaces import gap, regions, widest
from pageclass.systems import now, processes

NUMBERS = (0, 1, 2, 3, 5, 8, 999)


def ask(question, *args):
    try:
        return question(*args)
    except errors.PageError as error:
        return error.__class__.__name__


def of_its_limits(system):
    """What depends on the frames and slots of the system, and on whether it is strict."""
    told = [counts(system), [disk(system, name) for name in files(system)]]
    for process in processes(system):
        told.append((forks_that_fit(system, process), [in_memory(system, place) for place in places(system, process)]))
    return told


def places(system, process):
    return [(process, number) for first, many, *_ in regions(system, process) for number in range(first, first + many)]


def of_its_steps(system):
    """What depends on the steps alone (0.4)."""
    told = [now(system), processes(system), files(system), count(system), charge(system), reserve(system),
            distances(system)]
    told += [ask(question, system, number) for number in NUMBERS
             for question in (at_position, faults, least_frames, swap_outs, write_backs, least_slots, working,
                              best_faults, least_exits, exits_for)]
    told += [ask(fits, system, [distance is not None and distance > number for distance in distances(system)])
             for number in NUMBERS]
    told += [(size(system, name), [ask(disk_if, system, number, name) for number in NUMBERS]) for name in files(system)]
    for process in processes(system):
        told += of_a_process(system, process)
    return told


def of_a_process(system, process):
    told = [regions(system, process), gap(system, process, 2), widest(system, process), share(system, process),
            frees(system, (process,)), reserve_of(system, process), picture(system, process)]
    told += [(changed(system, process, since), increment(system, process, since)) for since in NUMBERS]
    held = places(system, process)
    told += [(position(system, place), users(system, place), next_write(system, place), stamp(system, place),
              origin(system, place), same(system, place, held[0]), ask(writes_of, system, [place])) for place in held]
    return told
