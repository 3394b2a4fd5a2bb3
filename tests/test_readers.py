"""Looks: points 7 and 8."""

from tests.helper import LARGEST, NO_WHEELS, SIXTY, Case
from wraptime import readers
from wraptime.errors import BadGaps, BadRule, BadSeen, BadWheel, NoGap
from wraptime.readers import Reader, first_wrong
from wraptime.rules import bound, shown

BEGINS = (0, 1, 7, -1, -8, 12345, -12345, SIXTY, -SIXTY, SIXTY // 7)
NO_RULES = ((), ("up",), ("up", -1), ("up", LARGEST + 1), ("near", 0), ("pair", 1), ("about", 5), ("far",))


def looked(reader, wheel, rule, time, about=None):
    """Look at what a rule's wheels show of a time; an about is handed in only if it is one."""
    seen = shown(wheel, rule, time)
    if about is None:
        return reader.look(seen)
    return reader.look(seen, about)


class Interface(Case):
    def test_they_are_defined_in_their_file(self):
        self.assertEqual(Reader.__module__, readers.__name__)
        self.assertEqual(first_wrong.__module__, readers.__name__)
        for method in ("look", "now"):
            self.assertIn(method, vars(Reader))


class Begun(Case):
    def test_now_ahead_of_the_first_look(self):
        for rule in (("up", 3), ("near",), ("pair", 4), ("about", 2)):
            for begun in BEGINS:
                reader = Reader(10, rule, begun)
                self.same([reader.now(), reader.now()], [begun, begun])

    def test_no_wheels(self):
        for wheel in NO_WHEELS:
            for rule in (("up", 0), ("near",), ("pair", 2), ("about", 0)) + NO_RULES:
                self.refused(BadWheel, Reader, wheel, rule, 0)

    def test_no_rules(self):
        for rule in NO_RULES:
            self.refused(BadRule, Reader, 10, rule, 0)


class Look(Case):
    def test_up(self):
        for least in (0, 1, 9, 10, 34):
            for begun in BEGINS:
                reader = Reader(10, ("up", least), begun)
                time = begun
                for more in (0, 1, 5, 9, 0, 9):
                    time += least + more
                    self.same(looked(reader, 10, ("up", least), time), time)
                    self.same(reader.now(), time)

    def test_up_written_out(self):
        reader = Reader(10, ("up", 3), -12)
        self.same([reader.look(seen) for seen in (8, 1, 3, 6, 6)], [-2, 1, 13, 16, 26])

    def test_near(self):
        for wheel in (2, 9, 10):
            low, high = bound(wheel, ("near",))
            for begun in BEGINS:
                reader = Reader(wheel, ("near",), begun)
                time = begun
                for length in (low, high, 0, high, low, low, 0):
                    time += length
                    self.same(looked(reader, wheel, ("near",), time), time)
                    self.same(reader.now(), time)

    def test_near_written_out(self):
        reader = Reader(10, ("near",), -12)
        self.same([reader.look(seen) for seen in (8, 1, 6, 0, 5, 5)], [-12, -9, -4, 0, 5, 5])

    def test_pair(self):
        for wheel, other in ((10, 7), (7, 10), (10, 4), (10, 5), (10, 10)):
            rule = ("pair", other)
            _, high = bound(wheel, rule)
            for begun in BEGINS:
                reader = Reader(wheel, rule, begun)
                time = begun
                for length in (0, 1, high, high - 1, 0, high):
                    time += length
                    self.same(looked(reader, wheel, rule, time), time)
                    self.same(reader.now(), time)

    def test_pair_written_out(self):
        reader = Reader(10, ("pair", 4), -1)
        self.same([reader.look(seen) for seen in ((0, 0), (0, 2), (9, 1), (9, 1))], [0, 10, 29, 29])

    def test_about(self):
        for wheel, off in ((10, 4), (11, 5), (10, 0), (2, 0)):
            rule = ("about", off)
            for begun in BEGINS:
                reader = Reader(wheel, rule, begun)
                time = begun
                for length in (0, 1, -1, 3 * wheel, -7 * wheel - 1, SIXTY, -SIXTY):
                    for more in (-off, 0, off):
                        time += length
                        self.same(looked(reader, wheel, rule, time, length + more), time)
                        self.same(reader.now(), time)

    def test_about_written_out(self):
        reader = Reader(10, ("about", 2), -12)
        told = [reader.look(seen, about) for seen, about in ((8, 0), (9, 12), (9, -19), (1, 0))]
        self.same(told, [-12, -1, -21, -19])

    def test_largest_wheel(self):
        reader = Reader(LARGEST, ("up", LARGEST), SIXTY)
        time = SIXTY
        for more in (0, LARGEST - 1, 5):
            time += LARGEST + more
            self.same(looked(reader, LARGEST, ("up", LARGEST), time), time)
        rule = ("pair", LARGEST - 1)
        reader = Reader(LARGEST, rule, -SIXTY)
        most = LARGEST * (LARGEST - 1) - 1
        self.same(looked(reader, LARGEST, rule, most - SIXTY), most - SIXTY)

    def test_about_may_be_left_out_or_counts_for_nothing(self):
        for rule in (("up", 3), ("near",), ("pair", 4)):
            for handed in ((), (None,), (0,), (SIXTY,), (-SIXTY,)):
                reader = Reader(10, rule, 4)
                self.same(reader.look(shown(10, rule, 8), *handed), 8)
                self.same(reader.now(), 8)

    def test_a_gap_is_told_of_what_was_told(self):
        # Whoever goes down from 3 to 2 is told 12 by up; what follows goes on from there.
        reader = Reader(10, ("up", 0), 0)
        self.same([reader.look(3), reader.look(2), reader.look(2), reader.look(5)], [3, 12, 12, 15])


class Refused(Case):
    def refused_as_if_not_looked_at(self, refusal, wheel, rule, seen, *about):
        """Assert that a look is refused, ahead of and behind others, as if it hadn't been looked at."""
        for begun in BEGINS:
            reader = Reader(wheel, rule, begun)
            for time in (begun, begun + 4, begun + 8):
                if time != begun:
                    self.same(looked(reader, wheel, rule, time, 4), time)
                for _ in range(2):
                    self.refused(refusal, reader.look, seen(time), *about)
                    self.same(reader.now(), time)

    def test_bad_seen(self):
        for rule in (("up", 3), ("near",)):
            for number in (-1, 10, SIXTY, -SIXTY):
                self.refused_as_if_not_looked_at(BadSeen, 10, rule, lambda _, told=number: told)

    def test_bad_seen_of_about(self):
        for number in (-1, 10, SIXTY, -SIXTY):
            for about in (0, 5, SIXTY):
                self.refused_as_if_not_looked_at(
                    BadSeen, 10, ("about", 2), lambda _, told=number: told, about
                )

    def test_bad_seen_of_each_wheel_of_a_pair(self):
        for wheel, other in ((7, 5), (5, 7)):
            for seen in ((wheel, 0), (-1, 0), (0, other), (0, -1), (SIXTY, 0), (0, -SIXTY)):
                self.refused_as_if_not_looked_at(
                    BadSeen, wheel, ("pair", other), lambda _, told=seen: told
                )
            reader = Reader(wheel, ("pair", other), 0)
            self.same(reader.look((wheel - 1, other - 1)), wheel * other - 1)

    def test_no_gap_of_a_pair(self):
        self.refused_as_if_not_looked_at(
            NoGap, 10, ("pair", 4), lambda now: (now % 10, (now + 1) % 4)
        )

    def test_no_gap_about(self):
        for about in (2, 6, -2, 8):
            self.refused_as_if_not_looked_at(NoGap, 10, ("about", 1), lambda now: (now + 4) % 10, about)

    def test_bad_seen_ahead_of_no_gap(self):
        reader = Reader(10, ("pair", 4), 0)
        self.refused(BadSeen, reader.look, (0, 5))
        self.refused(BadSeen, reader.look, (11, 0))
        reader = Reader(10, ("about", 1), 0)
        self.refused(BadSeen, reader.look, 15, 0)
        self.same(reader.now(), 0)


class SideBySide(Case):
    def test_neither_changes_the_other(self):
        one, other = Reader(10, ("up", 0), 0), Reader(10, ("up", 0), 100)
        self.same([one.look(3), other.look(1), one.look(2), other.look(1)], [3, 101, 12, 101])
        self.same([one.now(), other.now()], [12, 101])
        self.refused(BadSeen, one.look, 10)
        self.same([one.now(), other.now()], [12, 101])

    def test_unlike_wheels_and_rules(self):
        readers_of = [
            (Reader(wheel, rule, 5), wheel, rule)
            for wheel in (7, 10)
            for rule in (("up", 1), ("near",), ("pair", 9), ("about", 2))
        ]
        for time in (6, 8, 9, 10):
            for reader, wheel, rule in readers_of:
                self.same(looked(reader, wheel, rule, time, 1), time)
        self.same([reader.now() for reader, _, _ in readers_of], [10] * 8)


class FirstWrong(Case):
    def test_one_time_only(self):
        for rule in (("up", 3), ("near",), ("pair", 4), ("about", 2)):
            for time in BEGINS:
                self.same(first_wrong(10, rule, [time], []), None)

    def test_no_times(self):
        for rule in (("up", 3), ("near",), ("pair", 4), ("about", 2)):
            for abouts in ([], [0], [0, 0]):
                self.refused(BadGaps, first_wrong, 10, rule, [], abouts)

    def test_abouts_too_many_or_too_few(self):
        for count in range(1, 5):
            times = list(range(count))
            for given in range(6):
                abouts = [1] * given
                for rule in (("up", 0), ("near",), ("pair", 4)):
                    if given:
                        self.refused(BadGaps, first_wrong, 10, rule, times, abouts)
                    else:
                        self.same(first_wrong(10, rule, times, abouts), None)
                if given != count - 1:
                    self.refused(BadGaps, first_wrong, 10, ("about", 2), times, abouts)
                else:
                    self.same(first_wrong(10, ("about", 2), times, abouts), None)

    def test_counts_are_refused_ahead_of_any_look(self):
        self.refused(BadGaps, first_wrong, 10, ("near",), [0, 9], [1])
        self.refused(BadGaps, first_wrong, 10, ("about", 0), [0, 9, 9], [1])

    def test_wheel_and_rule_are_refused_first(self):
        for wheel in NO_WHEELS:
            for rule in (("near",), ("about", 0)) + NO_RULES:
                for times, abouts in (([0], []), ([], []), ([0, 1], [0, 0])):
                    self.refused(BadWheel, first_wrong, wheel, rule, times, abouts)
        for rule in NO_RULES:
            for times, abouts in (([0], []), ([], []), ([0, 1], [0, 0])):
                self.refused(BadRule, first_wrong, 10, rule, times, abouts)

    def test_both_ends_of_the_bound_and_one_beyond(self):
        for wheel, rule in (
            (10, ("up", 0)),
            (10, ("up", 34)),
            (2, ("up", 1)),
            (10, ("near",)),
            (11, ("near",)),
            (2, ("near",)),
            (10, ("pair", 7)),
            (10, ("pair", 4)),
            (10, ("pair", 10)),
            (LARGEST, ("up", LARGEST)),
            (LARGEST, ("near",)),
            (LARGEST, ("pair", LARGEST - 1)),
        ):
            low, high = bound(wheel, rule)
            for begun in BEGINS:
                within = [low, high, high, low, (low + high) // 2]
                self.same(first_wrong(wheel, rule, times_of(begun, within), []), None)
                for wrong in (low - 1, high + 1, low - 5 * wheel, high + 5 * wheel, SIXTY, -SIXTY):
                    for at in range(len(within) + 1):
                        gaps = within[:at] + [wrong] + within[at:]
                        self.same(first_wrong(wheel, rule, times_of(begun, gaps), []), at + 1)

    def test_both_ends_of_about_and_one_beyond(self):
        for wheel, off in ((10, 4), (10, 2), (11, 5), (10, 0), (2, 0), (LARGEST, LARGEST // 2 - 1)):
            gaps = [0, 7, -23, SIXTY, -SIXTY]
            for begun in BEGINS:
                times = times_of(begun, gaps)
                more = [off, -off, 0, -off, off]
                abouts = [length + extra for length, extra in zip(gaps, more)]
                self.same(first_wrong(wheel, ("about", off), times, abouts), None)
                for at, length in enumerate(gaps):
                    for beyond in (off + 1, -off - 1, wheel, -wheel, SIXTY // 3, -SIXTY // 3):
                        off_at = abouts[:at] + [length + beyond] + abouts[at + 1:]
                        self.same(first_wrong(wheel, ("about", off), times, off_at), at + 1)

    def test_a_refused_look_is_told(self):
        # The gap is 4; nothing from 1 to 3 has its rest (NoGap), nor from 6 to 8.
        reader = Reader(10, ("about", 1), 0)
        self.refused(NoGap, reader.look, 4, 2)
        self.same(first_wrong(10, ("about", 1), [0, 4], [2]), 1)
        self.same(first_wrong(10, ("about", 1), [0, 4, 8], [4, 7]), 2)
        self.same(first_wrong(10, ("about", 1), [0, 4, 8, 9], [4, 4, 6]), 3)
        # An about a whole turn off isn't refused, but told wrong.
        self.same(Reader(10, ("about", 1), 0).look(4, 14), 14)
        self.same(first_wrong(10, ("about", 1), [0, 4], [14]), 1)

    def test_first_of_several(self):
        self.same(first_wrong(10, ("near",), [0, 5, 10, 16, 17, 40], []), 3)
        self.same(first_wrong(10, ("up", 3), [0, 3, 15, 17, 30, 30], []), 3)
        self.same(first_wrong(10, ("pair", 7), [0, 69, 68, 0], []), 2)
        self.same(first_wrong(10, ("about", 1), [0, 4, 8, 12], [4, 9, 2]), 2)
        self.same(first_wrong(10, ("about", 1), [0, 4, 8, 12], [4, 14, 2]), 2)

    def test_first_counts_where_later_ones_are_right_again(self):
        # At the wrong look told is a whole turn less, and behind it what comes by going back is right.
        self.same(first_wrong(10, ("near",), [0, 9, -1, 9], []), 1)
        self.same(first_wrong(10, ("near",), [0, 1, 8, 1], []), 2)

    def test_just_the_gaps_within_the_bound(self):
        for wheel in range(2, 8):
            for rule in (("up", 0), ("up", wheel + 1), ("near",), ("pair", 4), ("pair", wheel)):
                low, high = bound(wheel, rule)
                for length in range(low - 2 * wheel, high + 2 * wheel):
                    wanted = None if low <= length <= high else 2
                    self.same(first_wrong(wheel, rule, times_of(-3, [low, length]), []), wanted)


def times_of(begun, gaps):
    """The times of looks, from the one begun at on, with these gaps between them."""
    times = [begun]
    for length in gaps:
        times.append(times[-1] + length)
    return times
