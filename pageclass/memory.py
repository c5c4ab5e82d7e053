"""What is in memory, and what came and went."""

from pageclass.checks import page_at
from pageclass.stores import shown


def in_memory(system, place):
    """Whether what a place shows is in memory (8.1)."""
    return shown(system, page_at(system, place)) in system.memory


def counts(system):
    """The numbers of faults, swap-outs and write-backs so far (8.1)."""
    return {"faults": system.faults, "swap_outs": system.swap_outs, "write_backs": system.write_backs}
