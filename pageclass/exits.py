"""The shares of processes, and what their exits free."""

from itertools import combinations
from math import gcd

from pageclass.checks import is_natural, require, require_processes, table_of
from pageclass.limits import charge_units
from pageclass.stores import shown
from pageclass.systems import processes


def users_of_classes(system):
    """For each private class and written object page the processes that use it, as keys of a dict."""
    found = {}
    for process, table in system.tables.items():
        for page in table.values():
            item = shown(system, page)
            if item in system.classes:
                using = found.setdefault(item, {})
                using[process] = True
    return list(found.values())


def share(system, process):
    """The share of a process, as a fraction in lowest terms (6.1)."""
    table_of(system, process)
    numerator = 0
    denominator = 1
    for using in users_of_classes(system):
        if process in using:
            above = numerator * len(using) + denominator
            below = denominator * len(using)
            common = gcd(above, below)
            numerator = above // common
            denominator = below // common
    return numerator, denominator


def frees(system, some):
    """How many classes would be gone if some processes left (6.2)."""
    require_processes(system, some)
    gone = [using for using in users_of_classes(system) if all([process in some for process in using])]
    return len(gone)


def groups_within(bits, groups):
    """For each choice of processes how many of the groups lie in it.

    A choice is the sum of the bits of the processes that are chosen.
    """
    many = 1 << len(bits)
    within = [0] * many
    for group in groups:
        within[sum([bits[process] for process in group])] += 1
    # Process by process, each choice with it takes over what lies in the choice without it.
    for bit in bits.values():
        for choice in range(many):
            if choice & bit:
                within[choice] += within[choice - bit]
    return within


def least_choice(system, groups, wanted):
    """The least one of the shortest tuples of living processes in which so many groups lie, or None."""
    living = processes(system)
    bits = {process: 1 << k for k, process in enumerate(living)}
    within = groups_within(bits, groups)
    for many in range(len(living) + 1):
        for chosen in combinations(living, many):
            if within[sum([bits[process] for process in chosen])] >= wanted:
                return chosen
    return None


def least_exits(system, count):
    """The least of the shortest tuples whose exits free so many classes, or None (6.2)."""
    require(is_natural(count), "count")
    return least_choice(system, users_of_classes(system), count)


def exits_for(system, count):
    """The least of the shortest tuples whose exits lessen the charge by so much, or None (6.2)."""
    require(is_natural(count), "count")
    return least_choice(system, list(charge_units(system, {}, {}).values()), count)
