"""Rows: how many shown numbers lie to each other at once."""

from wraptime.errors import BadSeen, BadSpan, NoSpan
from wraptime.wheels import check_seen, check_wheel, order, since

MOST_SEEN = 60


def arranged(wheel, span, seen):
    """The places of shown numbers in the order of their times, which lie within the span; None if unsure."""
    check_wheel(wheel)
    if not 0 <= span < wheel:
        raise BadSpan(f"the wheel {wheel} has no span of {span}")
    _check_row(wheel, seen)
    if not seen:
        return []
    begins = [begin for begin in sorted(set(seen)) if _lie_within(wheel, span, begin, seen)]
    if not begins:
        raise NoSpan(f"no times lie within {span}")
    if len(begins) > 1:
        return None
    return _places_from(wheel, begins[0], seen)


def ring(wheel, seen):
    """The first three places of which each is ahead of the next, the third of the first; None if there is none."""
    check_wheel(wheel)
    _check_row(wheel, seen)
    ahead = [[order(wheel, one, other) == "ahead" for other in seen] for one in seen]
    places = range(len(seen))
    for first in places:
        for second in places:
            if not ahead[first][second]:
                continue
            for third in places:
                if ahead[second][third] and ahead[third][first]:
                    return (first, second, third)
    return None


def _check_row(wheel, seen):
    """Refuse too many shown numbers, then those that the wheel doesn't show."""
    if len(seen) > MOST_SEEN:
        raise BadSeen(f"at most {MOST_SEEN} shown numbers, not {len(seen)}")
    for number in seen:
        check_seen(wheel, number)


def _lie_within(wheel, span, begin, seen):
    """Whether all shown numbers lie within the span, the first time being that of begin."""
    return all(since(wheel, begin, number) <= span for number in seen)


def _places_from(wheel, begin, seen):
    """The places of shown numbers as they come from begin on; of like ones the lesser first."""
    rows = sorted([(since(wheel, begin, number), place) for place, number in enumerate(seen)])
    return [place for _, place in rows]
