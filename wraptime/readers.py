"""Readers: the long time behind many looks at a rule's wheels."""

from wraptime.errors import BadGaps, NoGap
from wraptime.rules import check_rule, gap, shown


class Reader:
    """Tells the long time of what is looked at, each look going on from the one ahead of it."""

    def __init__(self, wheel, rule, begun):
        check_rule(wheel, rule)
        self._wheel = wheel
        self._rule = rule
        self._told = begun

    def look(self, seen, about=None):
        """The long time of a look: the one told last, and the gap."""
        before = shown(self._wheel, self._rule, self._told)
        # Nothing is kept ahead of the gap, so that a refused look leaves the reader as it was.
        length = gap(self._wheel, self._rule, before, seen, about)
        self._told = self._told + length
        return self._told

    def now(self):
        """The long time told last."""
        return self._told


def first_wrong(wheel, rule, times, abouts):
    """The number, from 1, of the first look at these times that isn't told right; None if there is none."""
    check_rule(wheel, rule)
    _check_counts(rule, times, abouts)
    reader = Reader(wheel, rule, times[0])
    for number in range(1, len(times)):
        time = times[number]
        about = abouts[number - 1] if abouts else None
        if not _tells(reader, shown(wheel, rule, time), about, time):
            return number
    return None


def _check_counts(rule, times, abouts):
    """Refuse no times at all, and abouts that are not as many as the rule asks for."""
    if not times:
        raise BadGaps("no time to begin at")
    wanted = len(times) - 1 if rule[0] == "about" else 0
    if len(abouts) != wanted:
        raise BadGaps(f"{wanted} abouts are asked for, not {len(abouts)}")


def _tells(reader, seen, about, time):
    """Whether a reader tells this time of a look; a look that it refuses tells none."""
    try:
        return reader.look(seen, about) == time
    except NoGap:
        return False
