"""The opening point over the whole program: what is handed in, what is told, and which refusal goes first."""

import copy
from itertools import product

from tests.helper import LARGEST, REFUSALS, SIXTY, Case
from wraptime.errors import BadGaps, BadLong, BadRule, BadSeen, BadSpan, BadWheel, NoGap, NoSpan
from wraptime.readers import Reader, first_wrong
from wraptime.rows import arranged, ring
from wraptime.rules import bound, gap, judged, shown
from wraptime.timers import apart, first_over, over
from wraptime.wheels import order, since


def look(wheel, rule, begun, seen, about):
    """Begin a reader, and look once."""
    return Reader(wheel, rule, begun).look(seen, about)


WHEEL = (BadWheel, 1, LARGEST + 1)
RULE = (BadRule, ("up", -1), ("near", 0), ("pair", 1), ("about", 5))
SEEN = (BadSeen, -1, 10)
LONG = (BadLong, -1, 10)

# A call that isn't refused, and for each thing handed in a refusal and what is refused by it (None where
# nothing is), whatever stands behind it.
CALLS = (
    (since, (10, 3, 7), (WHEEL, SEEN, SEEN)),
    (order, (10, 3, 7), (WHEEL, SEEN, SEEN)),
    (shown, (10, ("near",), 5), (WHEEL, RULE, None)),
    (gap, (10, ("near",), 1, 9, None), (WHEEL, RULE, SEEN, SEEN, None)),
    (gap, (10, ("about", 2), 1, 9, 8), (WHEEL, RULE, SEEN, SEEN, (NoGap, 5, 11, SIXTY - 4))),
    (gap, (10, ("pair", 4), (0, 0), (0, 2), None),
     (WHEEL, None, (BadSeen, (10, 0), (0, 4), (-1, -1)), (BadSeen, (10, 0), (0, 4)), None)),
    (gap, (10, ("pair", 4), (0, 0), (0, 2), None), (WHEEL, None, None, (NoGap, (0, 1), (9, 0)), None)),
    (bound, (10, ("near",)), (WHEEL, RULE)),
    (judged, (10, ("near",), 0, 3), (WHEEL, RULE, None, (BadGaps, -1, -SIXTY))),
    (Reader, (10, ("near",), 5), (WHEEL, RULE, None)),
    (look, (10, ("near",), 5, 6, None), (WHEEL, RULE, None, SEEN, None)),
    (look, (10, ("about", 2), 1, 9, 8), (WHEEL, RULE, None, SEEN, (NoGap, 5, 11))),
    (first_wrong, (10, ("near",), [1, 2], []), (WHEEL, RULE, (BadGaps, []), (BadGaps, [1], [1, 2]))),
    (first_wrong, (10, ("about", 2), [1, 2], [1]), (WHEEL, RULE, (BadGaps, []), (BadGaps, [], [1, 2]))),
    (arranged, (10, 5, [3, 1, 3]), (WHEEL, (BadSpan, -1, 10), (BadSeen, [-1], [0, 10], [0] * 61))),
    (arranged, (10, 5, [3, 1, 3]), (WHEEL, (BadSpan, -1, 10), (NoSpan, [0, 3, 7], [0, 3, 6]))),
    (ring, (10, [0, 3, 7]), (WHEEL, (BadSeen, [-1], [0, 3, 7, 10], [0] * 61))),
    (over, (10, 5, 1, 7), (WHEEL, LONG, SEEN, SEEN)),
    (first_over, (10, 5, [1, 4, 8]), (WHEEL, LONG, (BadGaps, [-1], [8, 7]))),
    (apart, (10, 5), (WHEEL, LONG)),
)


def answer(function, handed):
    """What is told of what is handed in; of a reader what it tells."""
    told = function(*handed)
    return told.now() if function is Reader else told


class FirstRefusal(Case):
    def test_what_is_handed_in_first_is_refused_first(self):
        for function, handed, wrongs in CALLS:
            choices = [(None,) if wrong is None else (None, *wrong[1:]) for wrong in wrongs]
            for chosen in product(*choices):
                wrong = [at for at, value in enumerate(chosen) if value is not None]
                asked = [handed[at] if value is None else value for at, value in enumerate(chosen)]
                if not wrong:
                    function(*asked)
                else:
                    self.refused(wrongs[wrong[0]][0], function, *asked)

    def test_each_refusal_is_met(self):
        met = {wrong[0] for _, _, wrongs in CALLS for wrong in wrongs if wrong is not None}
        self.assertEqual(met, set(REFUSALS))


class HandedIn(Case):
    def test_it_stays_as_it_is(self):
        for function, handed, wrongs in CALLS:
            before = copy.deepcopy(handed)
            function(*handed)
            self.same(handed, before)
            for at, wrong in enumerate(wrongs):
                for value in (wrong or (None,))[1:]:
                    asked = (*handed[:at], value, *handed[at + 1:])
                    before = copy.deepcopy(asked)
                    self.refused(wrong[0], function, *asked)
                    self.same(asked, before)

    def test_it_may_be_changed_later(self):
        for function, handed, _ in CALLS:
            wanted = answer(function, copy.deepcopy(handed))
            asked = copy.deepcopy(handed)
            self.same(answer(function, asked), wanted)
            for value in asked:
                if isinstance(value, list):
                    value.reverse()
                    value.append(99)
            self.same(answer(function, copy.deepcopy(handed)), wanted)

    def test_a_list_may_be_handed_in_anew_when_changed(self):
        times, abouts = [0, 4], [4]
        self.same(first_wrong(10, ("about", 1), times, abouts), None)
        times.append(8)
        self.refused(BadGaps, first_wrong, 10, ("about", 1), times, abouts)
        abouts.append(7)
        self.same(first_wrong(10, ("about", 1), times, abouts), 2)
        seen = [3, 1]
        self.same(arranged(10, 5, seen), [1, 0])
        seen[1] = 5
        self.same(arranged(10, 5, seen), [0, 1])
        looks = [1, 4]
        self.same(first_over(10, 5, looks), None)
        looks.append(5)
        self.same(first_over(10, 5, looks), 2)


class Told(Case):
    def test_a_told_list_may_be_changed(self):
        told = arranged(10, 5, [3, 1, 3])
        told.clear()
        self.same(arranged(10, 5, [3, 1, 3]), [1, 0, 2])
        told = arranged(10, 5, [])
        told.append(0)
        self.same(arranged(10, 5, []), [])

    def test_sixty_figures_above_and_below_nought(self):
        for time in (SIXTY - 7, -SIXTY, -1, 0):
            self.same(shown(10, ("near",), time), time % 10)
            self.same(judged(10, ("near",), time, time), ("right",) if -4 <= time <= 5 else ("wrong", time))
            reader = Reader(10, ("near",), time)
            self.same(reader.look((time + 5) % 10), time + 5)
            self.same(reader.look((time + 1) % 10), time + 1)
            self.same(first_wrong(10, ("near",), [time, time + 5, time + 1, time + 7], []), 3)
            self.same(first_wrong(10, ("about", 1), [time, 5, time], [6 - time, time - 6]), None)
            self.same(first_wrong(10, ("about", 1), [time, 5, time], [6 - time, time - 7]), 2)
        self.same(first_over(10, 5, [SIXTY - SIXTY % 10, SIXTY]), 1)
