"""Comparing: what is seen by one chart alone, and by another one."""

from seenabout.charts import Chart
from seenabout.errors import Unlike
from seenabout.lands import check_land
from seenabout.seeing import rounds


def _without(some, others):
    """Those of some that are none of the others."""
    left_out = {seen: True for seen in others}
    return tuple([seen for seen in some if seen not in left_out])


def apart(one, other, *, land=None):
    """The rounds that are seen from places of the land by the one chart alone, and by the other one alone."""
    if not isinstance(other, Chart) or one.names != other.names:
        raise Unlike(other)
    check_land(land)
    first, second = rounds(one, land=land), rounds(other, land=land)
    return _without(first, second), _without(second, first)
