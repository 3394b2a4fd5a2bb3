"""Rules: which gap is told of what is shown at its begin and its end."""

from math import lcm

from wraptime.errors import BadGaps, BadRule, NoGap
from wraptime.wheels import check_seen, check_wheel, is_wheel

MOST_LEAST = 10 ** 12


def is_number(value):
    """Whether a value is a whole number; True and False are none."""
    return isinstance(value, int) and not isinstance(value, bool)


def is_rule(wheel, rule):
    """Whether a value is a rule on a wheel."""
    if not isinstance(rule, tuple):
        return False
    if len(rule) != 2:
        return rule == ("near",)
    kind, size = rule
    if not is_number(size):
        return False
    if kind == "up":
        return 0 <= size <= MOST_LEAST
    if kind == "pair":
        return is_wheel(size)
    return kind == "about" and 0 <= 2 * size < wheel


def check_rule(wheel, rule):
    """Refuse what is no wheel, then what is no rule on it."""
    check_wheel(wheel)
    if not is_rule(wheel, rule):
        raise BadRule(f"no rule on the wheel {wheel}")


def check_shown(wheel, rule, seen):
    """Refuse what the wheels of a rule don't show."""
    if rule[0] != "pair":
        check_seen(wheel, seen)
        return
    check_seen(wheel, seen[0])
    check_seen(rule[1], seen[1])


def shown(wheel, rule, time):
    """What the wheels of a rule show of a time."""
    check_rule(wheel, rule)
    if rule[0] == "pair":
        return (time % wheel, time % rule[1])
    return time % wheel


def gap(wheel, rule, one, other, about):
    """The gap that a rule tells of what is shown at its begin and its end."""
    check_rule(wheel, rule)
    check_shown(wheel, rule, one)
    check_shown(wheel, rule, other)
    if rule[0] == "pair":
        return _gap_of_pair(wheel, rule[1], one, other)
    rest = (other - one) % wheel
    if rule[0] == "about":
        return _gap_about(wheel, rule[1], rest, about)
    # The bound of up and of near is one turn long, so that it has each rest just once.
    low, _ = bound(wheel, rule)
    return _least_from(wheel, low, rest)


def _least_from(wheel, low, rest):
    """The least number from low on that has the rest."""
    return low + (rest - low) % wheel


def _gap_about(wheel, off, rest, about):
    """The number that has the rest and is no farther than off from the about."""
    told = _least_from(wheel, about - off, rest)
    if told > about + off:
        raise NoGap(f"no number about {about} has the rest {rest}")
    return told


def _gap_of_pair(wheel, other_wheel, one, other):
    """The least number from 0 on that has the rests by both wheels."""
    rest = (other[0] - one[0]) % wheel
    # Whole turns of the wheel keep its rest; they must bring the other wheel this far.
    missing = other[1] - one[1] - rest
    divisor, turns = _common_divisor(wheel, other_wheel)
    if missing % divisor != 0:
        raise NoGap("no number has the rests by both wheels")
    return rest + missing // divisor * turns % (other_wheel // divisor) * wheel


def _common_divisor(wheel, other_wheel):
    """The greatest divisor of both wheels, and a number of turns of the wheel that the other one shows as it."""
    divisor, rest = wheel, other_wheel
    turns, following = 1, 0
    while rest != 0:
        times = divisor // rest
        divisor, rest = rest, divisor - times * rest
        turns, following = following, turns - times * following
    return divisor, turns


def bound(wheel, rule):
    """The least and the largest gap that a rule tells right."""
    check_rule(wheel, rule)
    kind = rule[0]
    if kind == "up":
        return (rule[1], rule[1] + wheel - 1)
    if kind == "near":
        # Just half a wheel is told as up, so that it is right up only.
        return (-((wheel - 1) // 2), wheel // 2)
    if kind == "pair":
        return (0, lcm(wheel, rule[1]) - 1)
    return (-rule[1], rule[1])


def judged(wheel, rule, least, most):
    """Whether a rule tells each gap from least to most right, or else the least one that it doesn't."""
    low, high = bound(wheel, rule)
    if least > most:
        raise BadGaps(f"no gaps from {least} to {most}")
    if least < low:
        return ("wrong", least)
    if most <= high:
        return ("right",)
    return ("wrong", max(least, high + 1))
