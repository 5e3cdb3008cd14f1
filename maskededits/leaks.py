"""Searching the shortest row of calls with a leak or a loss."""

from maskededits.checker import check_calls, first_leak
from maskededits.losses import first_loss


def longer_rows(menu, rows):
    """Returns all rows of calls that are longer by one call, in the order of the menu."""
    return [(*row, call) for row in rows for call in menu]


def shortest_finding(levels, menu, most, fault, *, losses=False, limit=40):
    """Returns the shortest row of calls of a menu with a leak, or a loss, and what is found in it."""
    check_calls(levels, menu)
    rows = [()]
    for length in range(most + 1):
        if length > 0:
            rows = longer_rows(menu, rows)
        for calls in rows:
            if losses:
                found = first_loss(levels, calls, fault, limit)
            else:
                found = first_leak(levels, calls, fault, limit)
            if found is not None:
                return (calls, found)
    return None
