"""Lists of steps."""

from pageclass.access import drop, need, read, write
from pageclass.checks import is_word
from pageclass.errors import NoStep, PageError
from pageclass.families import restore
from pageclass.files import create, crash, drop_cache, read_page, sync, truncate, write_page
from pageclass.locks import lock, unlock
from pageclass.merging import merge
from pageclass.spaces import flag, map_pages, move, protect, unmap
from pageclass.systems import fork, fresh, leave, spawn

# How many arguments each step has by position behind the system.
BY_POSITION = {
    "spawn": 0, "fork": 1, "leave": 1, "fresh": 1,
    "map_pages": 2, "unmap": 3, "protect": 4, "move": 4, "flag": 3,
    "lock": 3, "unlock": 3,
    "read": 2, "write": 3, "need": 3, "drop": 3,
    "create": 2, "read_page": 2, "write_page": 3, "truncate": 2, "sync": 1, "drop_cache": 0, "crash": 0,
    "merge": 0, "restore": 1,
}
BY_NAME = {
    "map_pages": ("rights", "shared", "source", "index", "at"),
    "flag": ("merge", "stay", "wipe"),
}


def step_functions():
    """The functions of the steps by their names."""
    return {
        "spawn": spawn, "fork": fork, "leave": leave, "fresh": fresh,
        "map_pages": map_pages, "unmap": unmap, "protect": protect, "move": move, "flag": flag,
        "lock": lock, "unlock": unlock,
        "read": read, "write": write, "need": need, "drop": drop,
        "create": create, "read_page": read_page, "write_page": write_page, "truncate": truncate, "sync": sync,
        "drop_cache": drop_cache, "crash": crash,
        "merge": merge, "restore": restore,
    }


def is_step(value):
    """Whether a value is a step with as many arguments as it has by position, and perhaps some by name."""
    if not isinstance(value, tuple) or len(value) == 0:
        return False
    if not isinstance(value[0], str) or value[0] not in BY_POSITION:
        return False
    more = len(value) - 1 - BY_POSITION[value[0]]
    if more == 0:
        return True
    if more != 1 or not isinstance(value[-1], dict):
        return False
    names = BY_NAME.get(value[0], ())
    return all([is_word(key, names) for key in value[-1]])


def run(system, steps):
    """Perform a list of steps and return the list of their results (12.1)."""
    if not isinstance(steps, list):
        raise NoStep(None)
    for at, step in enumerate(steps):
        if not is_step(step):
            raise NoStep(at)
    functions = step_functions()
    return [perform(system, functions[step[0]], step) for step in steps]


def perform(system, function, step):
    """Perform one step and return its result, or the name of the error that it raises."""
    end = 1 + BY_POSITION[step[0]]
    by_position = step[1:end]
    by_name = step[end] if end < len(step) else {}
    try:
        return function(system, *by_position, **by_name)
    except PageError as error:
        return ("raises", type(error).__name__)
