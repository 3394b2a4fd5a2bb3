"""Rules: points 4, 5 and 6, each told anew from its words by trying numbers out."""

import copy
from math import gcd, lcm

from tests.helper import LARGEST, NO_WHEELS, SIXTY, Case
from wraptime import rules
from wraptime.errors import BadGaps, BadRule, BadSeen, BadWheel, NoGap, WrapError
from wraptime.rules import bound, gap, judged, shown

FUNCTIONS = (shown, gap, bound, judged)

# The wheel for which NO_RULES are none; 5 is half of it.
WHEEL = 10

NO_RULES = (
    (),
    ("up",),
    ("up", -1),
    ("up", LARGEST + 1),
    ("up", -SIXTY),
    ("up", SIXTY),
    ("up", None),
    ("up", "1"),
    ("up", True),
    ("up", False),
    ("up", (1,)),
    ("up", 1, 1),
    ("near", None),
    ("near", 0),
    ("near", 1, 1),
    ("pair",),
    ("pair", None),
    ("pair", True),
    ("pair", ("pair", 3)),
    ("pair", 3, 3),
    ("about",),
    ("about", -1),
    ("about", -SIXTY),
    ("about", WHEEL // 2),
    ("about", WHEEL // 2 + 1),
    ("about", WHEEL),
    ("about", SIXTY),
    ("about", None),
    ("about", False),
    ("about", 1, 1),
    ("far",),
    ("far", 3),
    ("",),
    ("Near",),
    ("UP", 3),
    (None,),
    (3,),
    (3, "up"),
    (0, 0),
    ("n", "e", "a", "r"),
    ["near"],
    ["up", 3],
    "near",
    "up",
    None,
    0,
) + tuple(("pair", wheel) for wheel in NO_WHEELS)


def rules_of(wheel):
    """Rules of each kind on a small wheel."""
    least = [("up", least) for least in (0, 1, wheel - 1, wheel, wheel + 1, 3 * wheel + 2)]
    pair = [("pair", other) for other in range(2, 9)]
    about = [("about", off) for off in range((wheel + 1) // 2)]
    return least + [("near",)] + pair + about


def call(function, wheel, rule, seen=0):
    """A function, and what to hand to it so that it refuses nothing but wheel and rule."""
    behind = {shown: (0,), gap: (seen, seen, 0), bound: (), judged: (0, 0)}
    return (function, wheel, rule) + behind[function]


def told_gap(wheel, rule, time, length, more=0):
    """The gap told of two times, the about being so much more than the gap; None if it is refused."""
    about = length + more if rule[0] == "about" else None
    try:
        return gap(wheel, rule, shown(wheel, rule, time), shown(wheel, rule, time + length), about)
    except NoGap:
        return None


class Interface(Case):
    def test_they_are_defined_in_their_file(self):
        for function in FUNCTIONS:
            self.assertEqual(function.__module__, rules.__name__)


class Wheels(Case):
    def test_no_wheels(self):
        for function in FUNCTIONS:
            for wheel in NO_WHEELS:
                for rule in (("up", 0), ("near",), ("about", 0)):
                    self.refused(BadWheel, *call(function, wheel, rule))
                self.refused(BadWheel, *call(function, wheel, ("pair", 2), (0, 0)))

    def test_least_and_largest_wheel(self):
        for wheel in (2, LARGEST):
            for rule in (("up", 0), ("near",), ("about", 0)):
                self.same(shown(wheel, rule, wheel + 1), 1)
                self.same(gap(wheel, rule, 1, 1, 0), 0)
                self.same(judged(wheel, rule, 0, 0), ("right",))
            self.same(shown(wheel, ("pair", wheel), -1), (wheel - 1, wheel - 1))
            self.same(bound(wheel, ("pair", wheel)), (0, wheel - 1))

    def test_wheel_is_refused_ahead_of_all_else(self):
        for wheel in (1, LARGEST + 1):
            for rule in NO_RULES:
                self.refused(BadWheel, shown, wheel, rule, 0)
                self.refused(BadWheel, gap, wheel, rule, -1, -1, None)
                self.refused(BadWheel, bound, wheel, rule)
                self.refused(BadWheel, judged, wheel, rule, 1, 0)
            self.refused(BadWheel, gap, wheel, ("near",), -1, -1, None)
            self.refused(BadWheel, judged, wheel, ("near",), 1, 0)


class Rules(Case):
    def test_no_rules(self):
        for function in FUNCTIONS:
            for rule in NO_RULES:
                self.refused(BadRule, *call(function, WHEEL, rule))

    def test_rule_is_refused_ahead_of_what_follows(self):
        for rule in NO_RULES:
            self.refused(BadRule, gap, WHEEL, rule, -1, WHEEL, None)
            self.refused(BadRule, judged, WHEEL, rule, 1, 0)

    def test_least_of_up_at_its_edges(self):
        for function in FUNCTIONS:
            for least in (0, LARGEST):
                function(*call(function, WHEEL, ("up", least))[1:])
            for least in (-1, LARGEST + 1):
                self.refused(BadRule, *call(function, WHEEL, ("up", least)))

    def test_other_wheel_of_pair_at_its_edges(self):
        for function in FUNCTIONS:
            for other in (2, LARGEST):
                function(*call(function, WHEEL, ("pair", other), (0, 0))[1:])
            for other in (1, LARGEST + 1):
                self.refused(BadRule, *call(function, WHEEL, ("pair", other), (0, 0)))

    def test_off_of_about_at_its_edges(self):
        for function in FUNCTIONS:
            for wheel in (2, 3, 10, 11, LARGEST - 1, LARGEST):
                most = (wheel - 1) // 2
                for off in (0, most):
                    function(*call(function, wheel, ("about", off))[1:])
                for off in (-1, most + 1):
                    self.refused(BadRule, *call(function, wheel, ("about", off)))


class Shown(Case):
    def test_rest_of_a_time(self):
        for rule in (("up", 3), ("near",), ("about", 2)):
            told = [shown(10, rule, time) for time in (0, 9, 10, 11, 123, -1, -10, -11)]
            self.same(told, [0, 9, 0, 1, 3, 9, 0, 9])

    def test_rests_of_a_pair(self):
        told = [shown(10, ("pair", 4), time) for time in (0, 9, 10, 23, -1, -4)]
        self.same(told, [(0, 0), (9, 1), (0, 2), (3, 3), (9, 3), (6, 0)])
        self.same(shown(4, ("pair", 4), 7), (3, 3))
        self.same(shown(4, ("pair", 10), 23), (3, 3))
        self.same(shown(4, ("pair", 10), 17), (1, 7))

    def test_times_of_sixty_figures(self):
        for time in (SIXTY, -SIXTY, SIXTY - 123456789):
            self.same(shown(LARGEST - 1, ("near",), time), time % (LARGEST - 1))
            self.same(
                shown(LARGEST, ("pair", LARGEST - 1), time), (time % LARGEST, time % (LARGEST - 1))
            )


class SeenOfGap(Case):
    def test_just_outside(self):
        for wheel in (2, 10, LARGEST):
            for rule in (("up", 0), ("near",), ("about", 0)):
                for seen in (-SIXTY, -1, wheel, SIXTY):
                    self.refused(BadSeen, gap, wheel, rule, seen, 0, 0)
                    self.refused(BadSeen, gap, wheel, rule, 0, seen, 0)
                self.same(gap(wheel, rule, 0, 0, 0), 0)
                self.same(gap(wheel, rule, wheel - 1, wheel - 1, 0), 0)

    def test_just_outside_of_a_pair(self):
        # The wheels are unlike, so that neither can be taken for the other one.
        for wheel, other in ((7, 5), (5, 7)):
            rule = ("pair", other)
            for seen in ((wheel, 0), (-1, 0), (0, other), (0, -1), (SIXTY, 0), (0, -SIXTY)):
                self.refused(BadSeen, gap, wheel, rule, seen, (0, 0), None)
                self.refused(BadSeen, gap, wheel, rule, (0, 0), seen, None)
            last = (wheel - 1, other - 1)
            self.same(gap(wheel, rule, last, last, None), 0)
            self.same(gap(wheel, rule, last, (0, 0), None), 1)
            self.same(gap(wheel, rule, (0, 0), last, None), wheel * other - 1)

    def test_first_seen_is_refused_ahead_of_second(self):
        for rule in (("up", 0), ("near",), ("about", 0)):
            words = self.refused(BadSeen, gap, 10, rule, 777, 888, 0)
            self.assertIn("777", words)
            self.assertNotIn("888", words)

    def test_first_seen_is_refused_ahead_of_second_of_a_pair(self):
        numbers = [111, 222, 333, 444]
        for at, number in enumerate(numbers):
            seen = [0] * at + numbers[at:]
            words = self.refused(
                BadSeen, gap, 10, ("pair", 4), tuple(seen[:2]), tuple(seen[2:]), None
            )
            self.assertIn(str(number), words)
            for behind in numbers[at + 1:]:
                self.assertNotIn(str(behind), words)

    def test_seen_is_refused_ahead_of_no_gap(self):
        self.refused(BadSeen, gap, 10, ("pair", 4), (0, 0), (1, 4), None)
        self.refused(BadSeen, gap, 10, ("pair", 4), (10, 0), (1, 0), None)
        self.refused(BadSeen, gap, 10, ("about", 1), 0, 10, 5)
        self.refused(BadSeen, gap, 10, ("about", 1), -1, 5, 0)


class GapOfUp(Case):
    def test_least_nought(self):
        told = [gap(10, ("up", 0), 7, other, None) for other in (7, 8, 9, 0, 5, 6)]
        self.same(told, [0, 1, 2, 3, 8, 9])

    def test_least_within_and_beyond_a_turn(self):
        told = [gap(10, ("up", 3), 7, other, None) for other in (0, 1, 6, 7, 8, 9)]
        self.same(told, [3, 4, 9, 10, 11, 12])
        told = [gap(10, ("up", 34), 7, other, None) for other in (0, 1, 2, 7)]
        self.same(told, [43, 34, 35, 40])

    def test_largest_least(self):
        rule = ("up", LARGEST)
        self.same(gap(10, rule, 4, 4, None), LARGEST)
        self.same(gap(10, rule, 4, 3, None), LARGEST + 9)
        self.same(gap(LARGEST, rule, 4, 3, None), 2 * LARGEST - 1)
        self.same(gap(LARGEST, ("up", LARGEST - 1), 4, 3, None), LARGEST - 1)
        self.same(gap(LARGEST, ("up", LARGEST - 1), 4, 4, None), LARGEST)

    def test_by_its_words(self):
        for wheel in range(2, 9):
            for least in range(0, 3 * wheel):
                for one in range(wheel):
                    for other in range(wheel):
                        wanted = least
                        while (one + wanted) % wheel != other:
                            wanted += 1
                        self.same(gap(wheel, ("up", least), one, other, None), wanted)


class GapOfNear(Case):
    def test_even_wheel(self):
        told = [gap(10, ("near",), 7, (7 + n) % 10, None) for n in range(10)]
        self.same(told, [0, 1, 2, 3, 4, 5, -4, -3, -2, -1])

    def test_odd_wheel(self):
        told = [gap(11, ("near",), 7, (7 + n) % 11, None) for n in range(11)]
        self.same(told, [0, 1, 2, 3, 4, 5, -5, -4, -3, -2, -1])

    def test_least_wheels(self):
        self.same([gap(2, ("near",), 1, other, None) for other in (1, 0)], [0, 1])
        self.same([gap(3, ("near",), 1, other, None) for other in (1, 2, 0)], [0, 1, -1])

    def test_half_of_the_largest_wheels(self):
        half = LARGEST // 2
        self.same(gap(LARGEST, ("near",), 0, half, None), half)
        self.same(gap(LARGEST, ("near",), half, 0, None), half)
        self.same(gap(LARGEST, ("near",), 0, half + 1, None), 1 - half)
        self.same(gap(LARGEST - 1, ("near",), 0, half - 1, None), half - 1)
        self.same(gap(LARGEST - 1, ("near",), 0, half, None), 1 - half)


class GapOfPair(Case):
    def test_wheels_without_a_common_divisor(self):
        rule = ("pair", 7)
        self.same(gap(10, rule, (0, 0), (3, 3), None), 3)
        self.same(gap(10, rule, (0, 0), (0, 3), None), 10)
        self.same(gap(10, rule, (9, 6), (8, 5), None), 69)
        self.same(gap(7, ("pair", 10), (6, 9), (5, 8), None), 69)

    def test_wheels_with_a_common_divisor(self):
        rule = ("pair", 4)
        self.same(gap(10, rule, (0, 0), (0, 2), None), 10)
        self.same(gap(10, rule, (9, 3), (8, 2), None), 19)
        self.same(gap(10, rule, (1, 1), (0, 0), None), 19)
        self.refused(NoGap, gap, 10, rule, (0, 0), (0, 1), None)
        self.same(gap(10, rule, (0, 1), (5, 0), None), 15)
        self.refused(NoGap, gap, 10, rule, (0, 1), (5, 1), None)

    def test_wheels_of_which_one_divides_the_other(self):
        self.same(gap(10, ("pair", 5), (0, 0), (9, 4), None), 9)
        self.same(gap(5, ("pair", 10), (0, 0), (4, 9), None), 9)
        self.refused(NoGap, gap, 10, ("pair", 5), (0, 0), (9, 3), None)
        self.refused(NoGap, gap, 5, ("pair", 10), (0, 0), (4, 8), None)

    def test_the_same_wheel(self):
        self.same(gap(10, ("pair", 10), (3, 5), (2, 4), None), 9)
        self.refused(NoGap, gap, 10, ("pair", 10), (3, 5), (2, 5), None)

    def test_largest_wheels(self):
        one, other = LARGEST, LARGEST - 1
        rule = ("pair", other)
        for length in (0, 1, one, one * other // 2, one * other - 1):
            seen = shown(one, rule, length - SIXTY)
            self.same(gap(one, rule, shown(one, rule, -SIXTY), seen, None), length)
        one, other = LARGEST, LARGEST - 2
        self.same(told_gap(one, ("pair", other), SIXTY, one * other // 2 - 1), one * other // 2 - 1)
        self.refused(NoGap, gap, one, ("pair", other), (0, 0), (0, 1), None)

    def test_by_its_words(self):
        for wheel in range(2, 13):
            for other in range(2, 13):
                turn = lcm(wheel, other)
                has = {(n % wheel, n % other): n for n in range(turn)}
                begin = (wheel // 2, other - 1)
                for first in range(wheel):
                    for second in range(other):
                        rests = ((first - begin[0]) % wheel, (second - begin[1]) % other)
                        asked = (wheel, ("pair", other), begin, (first, second), None)
                        if rests in has:
                            self.same(gap(*asked), has[rests])
                        else:
                            self.assertNotEqual(gcd(wheel, other), 1)
                            self.refused(NoGap, gap, *asked)


class GapOfAbout(Case):
    def test_off_to_both_sides_and_one_beyond(self):
        rule = ("about", 2)
        for length in (0, 1, 17, 30, -5, -23):
            for more in (-2, -1, 0, 1, 2):
                self.same(gap(10, rule, 4, (4 + length) % 10, length + more), length)
            for more in (-5, -4, -3, 3, 4, 5):
                self.refused(NoGap, gap, 10, rule, 4, (4 + length) % 10, length + more)

    def test_no_off(self):
        self.same(gap(10, ("about", 0), 4, 7, 23), 23)
        self.refused(NoGap, gap, 10, ("about", 0), 4, 7, 22)
        self.refused(NoGap, gap, 10, ("about", 0), 4, 7, 24)
        self.same(gap(2, ("about", 0), 0, 1, -1), -1)
        self.refused(NoGap, gap, 2, ("about", 0), 0, 1, 0)

    def test_largest_off(self):
        # On an odd wheel the numbers about are a whole turn, on an even one they are one short.
        told = [gap(5, ("about", 2), 0, seen, 1) for seen in range(5)]
        self.same(told, [0, 1, 2, 3, -1])
        told = [gap(6, ("about", 2), 0, seen, 1) for seen in (0, 1, 2, 3, 5)]
        self.same(told, [0, 1, 2, 3, -1])
        self.refused(NoGap, gap, 6, ("about", 2), 0, 4, 1)

    def test_sixty_figures(self):
        off = LARGEST // 2 - 1
        for about in (SIXTY, -SIXTY, SIXTY - 7, 7 - SIXTY):
            for away in (-off, 0, off):
                seen = (about + away) % LARGEST
                self.same(gap(LARGEST, ("about", off), 0, seen, about), about + away)
            opposite = (about + LARGEST // 2) % LARGEST
            self.refused(NoGap, gap, LARGEST, ("about", off), 0, opposite, about)


class AboutOfOtherRules(Case):
    def test_counts_for_nothing(self):
        for about in (None, 0, 1, -1, SIXTY, -SIXTY):
            self.same(gap(10, ("up", 3), 7, 9, about), 12)
            self.same(gap(10, ("near",), 7, 5, about), -2)
            self.same(gap(10, ("pair", 4), (0, 0), (0, 2), about), 10)
            self.refused(NoGap, gap, 10, ("pair", 4), (0, 0), (0, 1), about)


class Bound(Case):
    def test_of_up(self):
        self.same(bound(10, ("up", 0)), (0, 9))
        self.same(bound(10, ("up", 34)), (34, 43))
        self.same(bound(2, ("up", 1)), (1, 2))
        self.same(bound(LARGEST, ("up", LARGEST)), (LARGEST, 2 * LARGEST - 1))

    def test_of_near(self):
        self.same(bound(10, ("near",)), (-4, 5))
        self.same(bound(11, ("near",)), (-5, 5))
        self.same(bound(2, ("near",)), (0, 1))
        self.same(bound(3, ("near",)), (-1, 1))
        self.same(bound(LARGEST, ("near",)), (1 - LARGEST // 2, LARGEST // 2))
        self.same(bound(LARGEST - 1, ("near",)), (1 - LARGEST // 2, LARGEST // 2 - 1))

    def test_of_pair(self):
        self.same(bound(10, ("pair", 7)), (0, 69))
        self.same(bound(10, ("pair", 4)), (0, 19))
        self.same(bound(4, ("pair", 10)), (0, 19))
        self.same(bound(10, ("pair", 10)), (0, 9))
        self.same(bound(LARGEST, ("pair", LARGEST - 1)), (0, LARGEST * (LARGEST - 1) - 1))

    def test_of_about(self):
        self.same(bound(10, ("about", 0)), (0, 0))
        self.same(bound(10, ("about", 4)), (-4, 4))
        self.same(bound(11, ("about", 5)), (-5, 5))

    def test_just_the_gaps_within_are_told_right(self):
        for wheel in range(2, 8):
            for rule in rules_of(wheel):
                if rule[0] == "about":
                    continue
                low, high = bound(wheel, rule)
                for time in (-wheel - 1, 0, 1, 2 * wheel - 1):
                    for length in range(low - 2 * wheel, high + 2 * wheel):
                        right = told_gap(wheel, rule, time, length) == length
                        self.assertEqual(right, low <= length <= high, (wheel, rule, length))

    def test_just_the_abouts_within_are_told_right(self):
        for wheel in range(2, 10):
            for off in range((wheel + 1) // 2):
                rule = ("about", off)
                low, high = bound(wheel, rule)
                for time in (-wheel - 1, 0, 1):
                    for length in (-wheel, -1, 0, 3, 2 * wheel + 1):
                        for more in range(-2 * wheel, 2 * wheel):
                            right = told_gap(wheel, rule, time, length, more) == length
                            self.assertEqual(right, low <= more <= high, (wheel, rule, more))

    def test_ends_of_large_wheels(self):
        for rule in (("up", 0), ("up", LARGEST), ("near",), ("pair", LARGEST - 1)):
            low, high = bound(LARGEST, rule)
            for time in (SIXTY, -SIXTY):
                self.same(told_gap(LARGEST, rule, time, low), low)
                self.same(told_gap(LARGEST, rule, time, high), high)
                self.assertNotEqual(told_gap(LARGEST, rule, time, low - 1), low - 1)
                self.assertNotEqual(told_gap(LARGEST, rule, time, high + 1), high + 1)


class Judged(Case):
    def test_ends_of_the_bound(self):
        for wheel, rule in (
            (10, ("up", 0)),
            (10, ("up", 34)),
            (10, ("near",)),
            (11, ("near",)),
            (10, ("pair", 7)),
            (10, ("pair", 4)),
            (10, ("about", 4)),
            (LARGEST, ("up", LARGEST)),
            (LARGEST, ("near",)),
            (LARGEST, ("pair", LARGEST - 1)),
            (LARGEST, ("about", LARGEST // 2 - 1)),
        ):
            low, high = bound(wheel, rule)
            self.same(judged(wheel, rule, low, high), ("right",))
            self.same(judged(wheel, rule, low, low), ("right",))
            self.same(judged(wheel, rule, high, high), ("right",))
            self.same(judged(wheel, rule, low, high + 1), ("wrong", high + 1))
            self.same(judged(wheel, rule, low, high + 9), ("wrong", high + 1))
            self.same(judged(wheel, rule, low - 1, high), ("wrong", low - 1))
            self.same(judged(wheel, rule, low - 9, high + 9), ("wrong", low - 9))
            self.same(judged(wheel, rule, low - 9, low - 3), ("wrong", low - 9))
            self.same(judged(wheel, rule, low - 1, low - 1), ("wrong", low - 1))
            self.same(judged(wheel, rule, high + 1, high + 1), ("wrong", high + 1))
            self.same(judged(wheel, rule, high + 3, high + 9), ("wrong", high + 3))

    def test_no_off(self):
        self.same(judged(10, ("about", 0), 0, 0), ("right",))
        self.same(judged(10, ("about", 0), 0, 1), ("wrong", 1))
        self.same(judged(10, ("about", 0), -1, 0), ("wrong", -1))

    def test_sixty_figures(self):
        self.same(judged(10, ("near",), -SIXTY, SIXTY), ("wrong", -SIXTY))
        self.same(judged(10, ("near",), 0, SIXTY), ("wrong", 6))
        self.same(judged(10, ("up", 3), SIXTY, SIXTY), ("wrong", SIXTY))

    def test_by_trying_each_gap(self):
        for wheel in (2, 5, 6):
            for rule in rules_of(wheel):
                low, high = bound(wheel, rule)
                for least in (low - 2, low - 1, low, high, high + 1):
                    for most in (low - 2, low, high - 1, high, high + 2):
                        if least <= most:
                            self.same(judged(wheel, rule, least, most), tried(wheel, rule, least, most))

    def test_least_above_most(self):
        for rule in (("up", 0), ("near",), ("pair", 7), ("about", 4)):
            for least, most in ((1, 0), (0, -1), (50, -50), (99, 98), (-98, -99), (SIXTY, -SIXTY)):
                self.refused(BadGaps, judged, 10, rule, least, most)


def tried(wheel, rule, least, most):
    """What is to be judged, by telling each gap (or about) from least to most."""
    for number in range(least, most + 1):
        if rule[0] == "about":
            told, wanted = told_gap(wheel, rule, 3, 7, number), 7
        else:
            told, wanted = told_gap(wheel, rule, 3, number), number
        if told != wanted:
            return ("wrong", number)
    return ("right",)


class Opening(Case):
    def test_what_is_handed_in_stays(self):
        for rule, seen in (
            (("up", 3), 1),
            (("near",), 1),
            (("pair", 7), (1, 1)),
            (("about", 4), 1),
            (["up", 3], 1),
        ):
            before = copy.deepcopy((rule, seen))
            for function in FUNCTIONS:
                try:
                    function(*call(function, 10, rule, seen)[1:])
                except WrapError:
                    self.assertIsInstance(rule, list)
                self.assertEqual((rule, seen), before)

    def test_nothing_is_kept_from_one_call_to_the_next(self):
        for _ in range(2):
            self.same(gap(10, ("up", 3), 7, 9, None), 12)
            self.same(gap(12, ("up", 3), 7, 9, None), 14)
            self.same(gap(10, ("up", 2), 7, 9, None), 2)
            self.refused(BadRule, gap, 10, ("up", -1), 7, 9, None)
            self.same(bound(10, ("near",)), (-4, 5))
            self.same(bound(11, ("near",)), (-5, 5))
            self.same(gap(10, ("about", 2), 7, 9, 1), 2)
            self.same(gap(10, ("about", 2), 7, 9, 11), 12)
