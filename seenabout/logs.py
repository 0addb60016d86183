"""Logs: what a row of rounds tells of the places at which it was written."""

from seenabout.cells import spread
from seenabout.errors import BadLog
from seenabout.seeing import is_round, rounds_in_sequence
from seenabout.sights import round_from

_MOST = 20


def _check_log(chart, log):
    """Refuse any value that is no log."""
    if not isinstance(log, tuple) or not 1 <= len(log) <= _MOST:
        raise BadLog(log)
    if not all([is_round(chart.names, asked) for asked in log]):
        raise BadLog(log)
    if any([one == other for one, other in zip(log, log[1:])]):
        raise BadLog(log)


def _seen(chart):
    """For each cell the round that is seen from there."""
    every = list(range(len(chart)))
    return [round_from(chart, cell, every) for cell in chart.plane.cells]


def _beside(chart, numbers):
    """The cells that touch one of those with these numbers."""
    return {other: True for number in numbers for other in chart.plane.near[number]}


def _led(chart, seen, log):
    """The ascending numbers of the cells in which one can be at the end of a log."""
    here = None
    for asked in log:
        allowed = {number: True for number, told in enumerate(seen) if told == asked}
        beside = allowed if here is None else _beside(chart, here)
        here = spread(chart, [number for number in beside if number in allowed], allowed)
    return here


def _cells_with(chart, numbers):
    return tuple([chart.plane.cells[number] for number in numbers])


def began(chart, log):
    """The ascending tuple of all cells in which the walker can have begun."""
    _check_log(chart, log)
    # Whoever went the same way back would have written the log backwards.
    return _cells_with(chart, _led(chart, _seen(chart), log[::-1]))


def now(chart, log):
    """The ascending tuple of all cells in which the walker can be at the end."""
    _check_log(chart, log)
    return _cells_with(chart, _led(chart, _seen(chart), log))


def coming(chart, log):
    """The ascending tuple of all rounds that can be written next."""
    _check_log(chart, log)
    seen = _seen(chart)
    beside = _beside(chart, _led(chart, seen, log))
    return rounds_in_sequence([seen[number] for number in beside if seen[number] != log[-1]])


def known(chart, log):
    """For each pair the side that all cells have in which the walker can be, otherwise None."""
    here = now(chart, log)
    if not here:
        return None
    return tuple([here[0][k] if all([cell[k] == here[0][k] for cell in here]) else None
                  for k in range(len(chart.pairs))])
