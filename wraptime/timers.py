"""Timers: whether a time is over, and how far looks at it may be apart."""

from wraptime.errors import BadGaps, BadLong
from wraptime.wheels import check_wheel, since


def over(wheel, long, begun, now):
    """Whether a timer begun at one shown number is over at another one."""
    _check_long(wheel, long)
    return since(wheel, begun, now) >= long


def first_over(wheel, long, looks):
    """The number, from 0, of the first look at which a timer is told over; None if there is none."""
    _check_long(wheel, long)
    _check_looks(looks)
    for number, look in enumerate(looks):
        # Only how long it is since the beginning counts, so it may as well be shown as 0.
        if over(wheel, long, 0, look % wheel):
            return number
    return None


def apart(wheel, long):
    """How far looks at a timer may be apart for none of them to miss that it is over."""
    _check_long(wheel, long)
    return wheel - long


def _check_long(wheel, long):
    """Refuse what is no wheel, then how long no timer runs on it."""
    check_wheel(wheel)
    if not 0 <= long < wheel:
        raise BadLong(f"no timer on the wheel {wheel} runs for {long}")


def _check_looks(looks):
    """Refuse looks that are ahead of the beginning, or of the look before."""
    before = 0
    for look in looks:
        if look < before:
            raise BadGaps(f"a look at {look} behind one at {before}")
        before = look
