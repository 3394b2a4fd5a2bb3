"""Many at once: points 9 and 10, each told anew from its words by trying times and places out."""

from itertools import permutations, product

from tests.helper import LARGEST, NO_WHEELS, SIXTY, Case
from wraptime import rows
from wraptime.errors import BadSeen, BadSpan, BadWheel, NoSpan
from wraptime.rows import arranged, ring
from wraptime.wheels import order

NO_SEEN = (-SIXTY, -10, -1, 10, 11, SIXTY)


class Interface(Case):
    def test_they_are_defined_in_their_file(self):
        for function in (arranged, ring):
            self.assertEqual(function.__module__, rows.__name__)


class Wheels(Case):
    def test_no_wheels(self):
        for wheel in NO_WHEELS:
            for seen in ([], [0], [-1], [0] * 61):
                for span in (0, -1, SIXTY):
                    self.refused(BadWheel, arranged, wheel, span, seen)
                self.refused(BadWheel, ring, wheel, seen)

    def test_least_and_largest_wheel(self):
        self.same(arranged(2, 0, [1, 1]), [0, 1])
        self.same(arranged(2, 1, [1, 1]), [0, 1])
        self.same(arranged(2, 1, [1, 0]), None)
        self.refused(NoSpan, arranged, 2, 0, [1, 0])
        self.same(ring(2, [0, 1, 0, 1]), None)
        last = LARGEST - 1
        self.same(arranged(LARGEST, 5, [2, last, 0]), [1, 2, 0])
        self.same(arranged(LARGEST, last, [2, last, 0]), None)
        third = LARGEST // 3
        self.same(ring(LARGEST, [0, third, 2 * third]), (0, 1, 2))


class Spans(Case):
    def test_just_outside(self):
        for wheel in (2, 3, 10, LARGEST):
            for span in (-SIXTY, -wheel, -1, wheel, wheel + 1, SIXTY):
                for seen in ([], [0], [0, 1]):
                    self.refused(BadSpan, arranged, wheel, span, seen)

    def test_nought_and_the_wheel_less_one(self):
        for wheel in (2, 3, 10, LARGEST):
            for span in (0, wheel - 1):
                self.same(arranged(wheel, span, []), [])
                self.same(arranged(wheel, span, [wheel - 1]), [0])
                self.same(arranged(wheel, span, [1, 1, 1]), [0, 1, 2])
            self.refused(NoSpan, arranged, wheel, 0, [0, wheel - 1])
            self.same(arranged(wheel, wheel - 1, [0, wheel - 1]), None)

    def test_ahead_of_bad_seen(self):
        for span in (-1, 10):
            for seen in ([-1], [10], [0] * 61):
                self.refused(BadSpan, arranged, 10, span, seen)


class Seen(Case):
    def test_numbers_that_are_not_shown(self):
        for number in NO_SEEN:
            for seen in ([number], [0, number], [0, 3, 7, number], [number, 3, 7]):
                self.refused(BadSeen, arranged, 10, 5, seen)
                self.refused(BadSeen, arranged, 10, 9, seen)
                self.refused(BadSeen, ring, 10, seen)

    def test_ahead_of_no_span_and_of_a_ring(self):
        self.refused(BadSeen, arranged, 10, 0, [0, 5, 10])
        self.refused(BadSeen, ring, 10, [0, 3, 7, 10])

    def test_first_one_is_refused(self):
        for words in (
            self.refused(BadSeen, arranged, 10, 5, [3, 777, 888]),
            self.refused(BadSeen, ring, 10, [3, 777, 888]),
        ):
            self.assertIn("777", words)
            self.assertNotIn("888", words)

    def test_sixty_and_sixty_one(self):
        sixty = list(range(60))
        self.same(arranged(1000, 59, sixty), sixty)
        self.refused(NoSpan, arranged, 1000, 58, sixty)
        self.same(arranged(1000, 59, sixty[::-1]), sixty[::-1])
        self.same(arranged(10, 0, [4] * 60), sixty)
        self.same(ring(1000, sixty), None)
        self.same(ring(10, [4] * 60), None)
        self.same(ring(10, [0] * 57 + [0, 3, 7]), (0, 58, 59))
        for many in (61, 62, 200):
            self.refused(BadSeen, arranged, 1000, 999, list(range(many)))
            self.refused(BadSeen, arranged, 10, 0, [4] * many)
            self.refused(BadSeen, ring, 1000, list(range(many)))
            self.refused(BadSeen, ring, 10, [0, 3, 7] + [4] * (many - 3))


class Arranged(Case):
    def test_none_and_one(self):
        for span in (0, 4, 9):
            self.same(arranged(10, span, []), [])
            for number in range(10):
                self.same(arranged(10, span, [number]), [0])

    def test_in_order(self):
        self.same(arranged(10, 4, [7, 5, 6]), [1, 2, 0])
        self.same(arranged(10, 4, [1, 9, 0, 8]), [3, 1, 2, 0])
        self.same(arranged(256, 20, [3, 250, 255, 251]), [1, 3, 2, 0])

    def test_like_ones_by_their_places(self):
        self.same(arranged(10, 4, [1, 9, 1, 9, 0]), [1, 3, 4, 0, 2])
        self.same(arranged(10, 0, [6, 6, 6, 6]), [0, 1, 2, 3])
        # Like ones alone begin alike, so that the order is sure by a long span, too.
        self.same(arranged(10, 9, [6, 6, 6, 6]), [0, 1, 2, 3])

    def test_just_within_and_one_beyond(self):
        self.same(arranged(10, 3, [2, 9]), [1, 0])
        self.refused(NoSpan, arranged, 10, 2, [2, 9])
        self.same(arranged(10, 6, [2, 9]), [1, 0])
        self.same(arranged(10, 7, [2, 9]), None)

    def test_unlike_begins(self):
        self.same(arranged(10, 5, [0, 5]), None)
        self.refused(NoSpan, arranged, 10, 4, [0, 5])
        self.same(arranged(9, 6, [0, 3, 6]), None)
        self.refused(NoSpan, arranged, 9, 5, [0, 3, 6])
        self.same(arranged(9, 6, [0, 3, 3, 6, 0]), None)

    def test_by_its_words(self):
        for wheel in range(2, 6):
            for span in range(wheel):
                for count in range(5):
                    for seen in product(range(wheel), repeat=count):
                        self.check_arranged(wheel, span, list(seen))

    def check_arranged(self, wheel, span, seen):
        """Assert that what is told is what trying all times out tells."""
        orders = tried_orders(wheel, span, seen)
        if not orders:
            self.refused(NoSpan, arranged, wheel, span, seen)
        elif len(orders) > 1:
            begins = {seen[places[0]] for places in orders}
            self.assertEqual(len(begins), len(orders))
            self.same(arranged(wheel, span, seen), None)
        else:
            self.same(arranged(wheel, span, seen), list(orders.pop()))

    def test_a_told_list_may_be_changed(self):
        for seen in ([], [3], [2, 9]):
            told = arranged(10, 3, seen)
            wanted = list(told)
            told.append(77)
            told.reverse()
            self.same(arranged(10, 3, seen), wanted)
            self.assertIsNot(arranged(10, 3, seen), seen)


def tried_orders(wheel, span, seen):
    """All orders of the places by times that show these numbers and lie within the span."""
    orders = set()
    # The first time may be shifted by whole turns to lie in the first one; so none is beyond the second.
    for times in product(*[(number, number + wheel) for number in seen]):
        if not times or max(times) - min(times) <= span:
            orders.add(tuple(sorted(range(len(times)), key=lambda place: (times[place], place))))
    return orders


class Ring(Case):
    def test_none_and_fewer_than_three(self):
        self.same(ring(10, []), None)
        for one in range(10):
            self.same(ring(10, [one]), None)
            for other in range(10):
                self.same(ring(10, [one, other]), None)

    def test_exactly_one(self):
        self.same(ring(10, [0, 3, 7]), (0, 1, 2))
        self.same(ring(10, [0, 7, 3]), (0, 2, 1))
        self.same(ring(10, [7, 3, 0]), (0, 2, 1))
        self.same(ring(10, [3, 7, 0]), (0, 1, 2))
        self.same(ring(10, [1, 0, 2, 3, 7]), (0, 3, 4))
        self.same(ring(3, [2, 1, 0]), (0, 2, 1))

    def test_first_of_several(self):
        self.same(ring(10, [0, 3, 7, 4]), (0, 1, 2))
        self.same(ring(10, [0, 7, 3, 4]), (0, 2, 1))
        self.same(ring(10, [0, 0, 3, 3, 7, 7]), (0, 2, 4))
        self.same(ring(10, [0, 7, 7, 4, 3]), (0, 3, 1))
        self.same(ring(12, [0, 1, 5, 9, 4, 8]), (0, 2, 3))

    def test_within_less_than_half_a_wheel(self):
        for wheel in range(2, 14):
            row = [(wheel - 2 + n) % wheel for n in range((wheel + 1) // 2)]
            self.same(ring(wheel, row), None)
            self.same(ring(wheel, row[::-1] + row), None)

    def test_opposite_ones(self):
        # On an even wheel opposite ones are neither ahead nor behind, so that they are in no ring.
        self.same(ring(10, [0, 5, 7]), None)
        self.same(ring(10, [0, 3, 5]), None)
        self.same(ring(10, [0, 5, 2, 7]), None)
        self.same(ring(10, [0, 4, 5, 8]), (0, 1, 3))
        self.same(ring(4, [0, 1, 2, 3]), None)
        # On an odd wheel none are; the lesser half is ahead.
        self.same(ring(11, [0, 5, 6]), (0, 1, 2))
        self.same(ring(11, [0, 5, 10]), (0, 1, 2))
        self.same(ring(11, [0, 6, 10]), None)
        self.same(ring(5, [0, 2, 3]), (0, 1, 2))

    def test_by_its_words(self):
        for wheel in range(2, 8):
            for count in range(5):
                for seen in product(range(wheel), repeat=count):
                    self.same(ring(wheel, list(seen)), tried_ring(wheel, seen))

    def test_each_is_ahead_of_the_next(self):
        seen = [(7 * n * n + 3 * n) % 101 for n in range(60)]
        first, second, third = ring(101, seen)
        for one, other in ((first, second), (second, third), (third, first)):
            self.same(order(101, seen[one], seen[other]), "ahead")
        self.same((first, second, third), tried_ring(101, seen))


def tried_ring(wheel, seen):
    """The first ring, by trying out all three places as tuples ascend."""
    for places in permutations(range(len(seen)), 3):
        ways = [(seen[places[n - 2]] - seen[places[n]]) % wheel for n in range(3)]
        if all(0 < 2 * way < wheel for way in ways):
            return places
    return None
