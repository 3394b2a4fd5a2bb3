"""Timers: point 11."""

from tests.helper import LARGEST, NO_WHEELS, SIXTY, Case
from wraptime import timers
from wraptime.errors import BadGaps, BadLong, BadSeen, BadWheel
from wraptime.timers import apart, first_over, over


class Interface(Case):
    def test_they_are_defined_in_their_file(self):
        for function in (over, first_over, apart):
            self.assertEqual(function.__module__, timers.__name__)


class WheelsAndLongs(Case):
    def refused_by_each(self, refusal, wheel, long):
        """Assert that each function refuses wheel or long, also if what follows is wrong, too."""
        for begun, now in ((0, 0), (-1, SIXTY)):
            self.refused(refusal, over, wheel, long, begun, now)
        for looks in ([], [0], [-1], [3, 2]):
            self.refused(refusal, first_over, wheel, long, looks)
        self.refused(refusal, apart, wheel, long)

    def test_no_wheels(self):
        for wheel in NO_WHEELS:
            for long in (0, -1, SIXTY):
                self.refused_by_each(BadWheel, wheel, long)

    def test_no_longs(self):
        for wheel in (2, 3, 10, LARGEST):
            for long in (-SIXTY, -wheel, -1, wheel, wheel + 1, SIXTY):
                self.refused_by_each(BadLong, wheel, long)

    def test_longs_at_their_edges(self):
        for wheel in (2, 3, 10, LARGEST):
            for now in (0, 1, wheel - 1):
                self.same(over(wheel, 0, 0, now), True)
                self.same(over(wheel, wheel - 1, 0, now), now == wheel - 1)
            self.same(first_over(wheel, 0, [5]), 0)
            self.same(first_over(wheel, wheel - 1, [0, wheel - 2, wheel - 1]), 2)
            self.same(apart(wheel, 0), wheel)
            self.same(apart(wheel, wheel - 1), 1)


class Over(Case):
    def test_just_below_at_and_above(self):
        for begun in range(10):
            for long in range(10):
                told = [over(10, long, begun, (begun + n) % 10) for n in range(10)]
                self.same(told, [False] * long + [True] * (10 - long))

    def test_largest_wheel(self):
        begun = LARGEST - 3
        for long in (1, 5, LARGEST // 2, LARGEST - 2):
            for more in (-1, 0, 1):
                self.same(over(LARGEST, long, begun, (begun + long + more) % LARGEST), more >= 0)

    def test_numbers_that_are_not_shown(self):
        for wheel in (2, 10, LARGEST):
            for seen in (-SIXTY, -1, wheel, SIXTY):
                for long in (0, 1, wheel - 1):
                    self.refused(BadSeen, over, wheel, long, seen, 0)
                    self.refused(BadSeen, over, wheel, long, 0, seen)

    def test_first_seen_is_refused_ahead_of_second(self):
        words = self.refused(BadSeen, over, 10, 5, 777, 888)
        self.assertIn("777", words)
        self.assertNotIn("888", words)


class FirstOver(Case):
    def test_none(self):
        for long in (0, 5, 9):
            self.same(first_over(10, long, []), None)
        self.same(first_over(10, 5, [0, 1, 4]), None)
        self.same(first_over(10, 5, [0, 4, 10, 14, 20]), None)

    def test_first_one(self):
        self.same(first_over(10, 5, [0, 1, 4, 5, 6]), 3)
        self.same(first_over(10, 5, [5]), 0)
        self.same(first_over(10, 5, [9]), 0)
        self.same(first_over(10, 0, [0]), 0)
        self.same(first_over(10, 0, [33, 44]), 0)

    def test_some_at_once(self):
        self.same(first_over(10, 5, [0, 0, 4, 4, 5, 5]), 4)
        self.same(first_over(10, 5, [4, 4]), None)
        self.same(first_over(10, 5, [7, 7]), 0)

    def test_more_than_once_round(self):
        # At 10 and at 23 the wheel shows less than 5 again.
        self.same(first_over(10, 5, [10, 23, 37]), 2)
        self.same(first_over(10, 5, [4, 104, 1005]), 2)
        self.same(first_over(10, 9, [8, 18, 28, 38, 49]), 4)

    def test_sixty_figures(self):
        looks = [0, SIXTY - SIXTY % LARGEST, SIXTY]
        self.same(first_over(LARGEST, LARGEST - 1, looks), 2)
        self.same(first_over(LARGEST, LARGEST - 1, looks[:2]), None)

    def test_looks_that_fall_or_are_below_nought(self):
        for looks in (
            [-1],
            [-SIXTY],
            [-1, 0],
            [-2, -1],
            [1, 0],
            [0, -1],
            [0, 3, 2],
            [SIXTY, 0],
            [0, 5, 4],
            [9, 9, 8, 9],
        ):
            for long in (0, 5, 9):
                self.refused(BadGaps, first_over, 10, long, looks)

    def test_by_its_words(self):
        for wheel in range(2, 7):
            for long in range(wheel):
                for looks in looks_of(3 * wheel, 2 * wheel, 2):
                    told = [n for n, look in enumerate(looks) if over(wheel, long, 0, look % wheel)]
                    self.same(first_over(wheel, long, looks), told[0] if told else None)

    def test_begin_counts_for_nothing(self):
        for begun in range(10):
            for look in range(25):
                told = over(10, 4, begun, (begun + look) % 10)
                self.same(first_over(10, 4, [look]), 0 if told else None)


def looks_of(most, farthest, count):
    """All rows of so many looks, none beyond the most, none farther than that from the one before."""
    rows = [[]]
    for _ in range(count):
        rows = [
            row + [look]
            for row in rows
            for before in (row[-1:] or [0])
            for look in range(before, min(before + farthest, most) + 1)
        ]
    return rows


class Apart(Case):
    def test_written_out(self):
        self.same([apart(10, long) for long in (0, 1, 5, 9)], [10, 9, 5, 1])
        self.same([apart(2, 0), apart(2, 1)], [2, 1])
        self.same(apart(LARGEST, 1), LARGEST - 1)

    def test_no_farther_apart_none_is_missed(self):
        for wheel in range(2, 6):
            for long in range(wheel):
                for looks in looks_of(2 * wheel, apart(wheel, long), 4):
                    due = [n for n, look in enumerate(looks) if look >= long]
                    self.same(first_over(wheel, long, looks), due[0] if due else None)

    def test_one_farther_it_may_be_missed(self):
        for wheel in range(2, 12):
            for long in range(1, wheel):
                looks = list(range(long)) + [long - 1 + apart(wheel, long) + 1]
                self.assertGreaterEqual(looks[-1], long)
                self.same(first_over(wheel, long, looks), None)
                looks[-1] -= 1
                self.same(first_over(wheel, long, looks), long)

    def test_of_long_nought_none_is_missed(self):
        for wheel in (2, 10, LARGEST):
            for look in (0, 1, wheel, wheel + 1, 2 * wheel, SIXTY):
                self.same(first_over(wheel, 0, [look]), 0)
