"""Wheels: points 2 and 3."""

from tests.helper import LARGEST, NO_WHEELS, SIXTY, Case
from wraptime import wheels
from wraptime.errors import BadSeen, BadWheel
from wraptime.wheels import order, since

BOTH = (since, order)


class Interface(Case):
    def test_they_are_defined_in_their_file(self):
        for function in BOTH:
            self.assertEqual(function.__module__, wheels.__name__)


class Wheels(Case):
    def test_least_wheel(self):
        self.same([since(2, one, other) for one in (0, 1) for other in (0, 1)], [0, 1, 1, 0])
        self.same(order(2, 0, 0), "same")
        self.same(order(2, 0, 1), "opposite")
        self.same(order(2, 1, 0), "opposite")

    def test_largest_wheel(self):
        self.same(since(LARGEST, LARGEST - 1, 0), 1)
        self.same(since(LARGEST, 0, LARGEST - 1), LARGEST - 1)
        self.same(order(LARGEST, LARGEST - 1, 0), "ahead")
        self.same(order(LARGEST, 0, LARGEST // 2), "opposite")

    def test_no_wheels(self):
        for function in BOTH:
            for wheel in NO_WHEELS:
                self.refused(BadWheel, function, wheel, 0, 0)


class Seen(Case):
    def test_edges_that_are_shown(self):
        for wheel in (2, 3, 10, LARGEST):
            self.same(since(wheel, 0, 0), 0)
            self.same(since(wheel, wheel - 1, wheel - 1), 0)
            self.same(since(wheel, 0, wheel - 1), wheel - 1)
            self.same(since(wheel, wheel - 1, 0), 1)

    def test_just_outside_and_far_off(self):
        for function in BOTH:
            for wheel in (2, 3, 10, LARGEST):
                for seen in (-SIXTY, -wheel, -1, wheel, wheel + 1, SIXTY):
                    self.refused(BadSeen, function, wheel, seen, 0)
                    self.refused(BadSeen, function, wheel, 0, seen)
                    self.refused(BadSeen, function, wheel, wheel - 1, seen)

    def test_wheel_is_refused_ahead_of_seen(self):
        for function in BOTH:
            for wheel in NO_WHEELS:
                self.refused(BadWheel, function, wheel, -1, 0)
                self.refused(BadWheel, function, wheel, 0, SIXTY)

    def test_first_seen_is_refused_ahead_of_second(self):
        for function in BOTH:
            words = self.refused(BadSeen, function, 10, 777, 888)
            self.assertIn("777", words)
            self.assertNotIn("888", words)
            self.assertIn("888", self.refused(BadSeen, function, 10, 7, 888))


class Since(Case):
    def test_ordinary(self):
        self.same(since(10, 3, 7), 4)
        self.same(since(10, 7, 3), 6)
        self.same(since(256, 250, 4), 10)
        self.same(since(12, 11, 11), 0)

    def test_least_way_of_small_wheels(self):
        for wheel in range(2, 14):
            for one in range(wheel):
                for other in range(wheel):
                    ways = [n for n in range(wheel) if (one + n) % wheel == other]
                    self.assertEqual([since(wheel, one, other)], ways)


class Order(Case):
    def test_even_wheel(self):
        told = [order(10, 8, (8 + n) % 10) for n in range(10)]
        self.assertEqual(told, ["same"] + ["ahead"] * 4 + ["opposite"] + ["behind"] * 4)

    def test_odd_wheel(self):
        told = [order(11, 8, (8 + n) % 11) for n in range(11)]
        self.assertEqual(told, ["same"] + ["ahead"] * 5 + ["behind"] * 5)

    def test_odd_wheel_of_three(self):
        self.assertEqual([order(3, 1, other) for other in (1, 2, 0)], ["same", "ahead", "behind"])

    def test_half_of_large_wheels(self):
        half = LARGEST // 2
        self.same(order(LARGEST, 5, 5 + half - 1), "ahead")
        self.same(order(LARGEST, 5, 5 + half), "opposite")
        self.same(order(LARGEST, 5, 5 + half + 1), "behind")
        odd = LARGEST - 1
        self.same(order(odd, 0, odd // 2), "ahead")
        self.same(order(odd, 0, odd // 2 + 1), "behind")

    def test_right_for_times_less_than_half_a_wheel_apart(self):
        for wheel in range(2, 14):
            for time in range(-2 * wheel, 2 * wheel):
                for apart in range(1, (wheel + 1) // 2):
                    later = time + apart
                    self.assertEqual(order(wheel, time % wheel, later % wheel), "ahead")
                    self.assertEqual(order(wheel, later % wheel, time % wheel), "behind")
