"""Wheels: how two numbers that a wheel shows lie to each other."""

from wraptime.errors import BadSeen, BadWheel

LEAST_WHEEL = 2
MOST_WHEEL = 10 ** 12


def is_wheel(number):
    """Whether a number is a wheel."""
    return LEAST_WHEEL <= number <= MOST_WHEEL


def check_wheel(wheel):
    """Refuse a number that is no wheel."""
    if not is_wheel(wheel):
        raise BadWheel(f"a wheel is a number from 2 to 10 ** 12, not {wheel}")


def check_seen(wheel, seen):
    """Refuse a number that the wheel doesn't show."""
    if not 0 <= seen < wheel:
        raise BadSeen(f"the wheel {wheel} doesn't show {seen}")


def since(wheel, one, other):
    """How long it is at the least from the one shown number to the other."""
    check_wheel(wheel)
    check_seen(wheel, one)
    check_seen(wheel, other)
    return (other - one) % wheel


def order(wheel, one, other):
    """How the one shown number lies to the other: same, ahead, behind or opposite."""
    # Doubled, as half of an odd wheel is no whole number.
    twice = 2 * since(wheel, one, other)
    if twice == 0:
        return "same"
    if twice == wheel:
        return "opposite"
    return "ahead" if twice < wheel else "behind"
