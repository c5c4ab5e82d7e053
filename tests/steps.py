"""All steps by their names (0.4)."""

from pageclass.access import drop, need, read, write
from pageclass.families import restore
from pageclass.files import create, crash, drop_cache, read_page, sync, truncate, write_page
from pageclass.locks import lock, unlock
from pageclass.merging import merge
from pageclass.spaces import flag, map_pages, move, protect, unmap
from pageclass.systems import fork, fresh, leave, spawn

STEPS = {step.__name__: step for step in (spawn, fork, leave, fresh, map_pages, unmap, protect, flag, move, read,
                                          write, need, drop, create, read_page, write_page, truncate, sync,
                                          drop_cache, crash, merge, lock, unlock, restore)}
