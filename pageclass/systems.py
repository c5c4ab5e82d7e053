"""Systems and their processes."""

from pageclass.checks import is_integer, table_of
from pageclass.errors import NoSystem
from pageclass.frames import this_step
from pageclass.limits import require_charge
from pageclass.pages import with_held, with_lock, with_stamp
from pageclass.rows import History
from pageclass.stores import end_step, replace_pages


class System:
    """A virtual memory; pageclass.stores, frames and rows say what is kept in it."""

    def __init__(self, *, frames=None, slots=None, strict=False):
        if frames is not None and not is_integer(frames, 1, 64):
            raise NoSystem("frames")
        if slots is not None and not is_integer(slots, 0, 256):
            raise NoSystem("slots")
        if not isinstance(strict, bool) or strict and (frames is None or slots is None):
            raise NoSystem("strict")
        self.frames = frames
        self.slots = slots
        self.strict = strict
        self.steps_made = 0
        self.processes_made = 0
        self.objects_made = 0
        self.tables = {}
        self.objects = {}
        self.object_pages = {}
        self.files = {}
        self.classes = {}
        self.locked_pages = 0
        self.memory = {}
        self.swapped = {}
        self.faults = 0
        self.swap_outs = 0
        self.write_backs = 0
        self.history = History()


def now(system):
    """The number of the last step, 0 at first."""
    return system.steps_made


def new_process(system):
    """Make a process without pages and return its number."""
    system.processes_made += 1
    system.tables[system.processes_made] = {}
    return system.processes_made


def unmap_all(system, process):
    """Unmap all pages of a process."""
    replace_pages(system, process, {number: None for number in system.tables[process]})


def end_process(system, process):
    """Unmap all pages of a process and end it."""
    unmap_all(system, process)
    del system.tables[process]


def spawn(system):
    """Make a process without pages and return its number (1.1)."""
    process = new_process(system)
    end_step(system)
    return process


def child_page(page, step):
    """The page of a child, which this step makes, for a page of its process (1.5)."""
    child = with_lock(page, False)
    if "wipe" in page.flags and not page.shared:
        return with_stamp(with_held(child, None), step)
    return child


def pages_of_child(system, table):
    """The pages of a child for those of its process."""
    step = this_step(system)
    return {number: child_page(page, step) for number, page in table.items() if "stay" not in page.flags}


def fork(system, process):
    """Make a child of a process and return its number (1.5)."""
    pages = pages_of_child(system, table_of(system, process))
    require_charge(system, {system.processes_made + 1: pages}, {})
    child = new_process(system)
    replace_pages(system, child, pages)
    end_step(system)
    return child


def leave(system, process):
    """End a process (1.1)."""
    table_of(system, process)
    end_process(system, process)
    end_step(system)


def fresh(system, process):
    """Unmap all pages of a process (1.1)."""
    table_of(system, process)
    unmap_all(system, process)
    end_step(system)


def processes(system):
    """The sorted list of the living processes."""
    return sorted(system.tables)
