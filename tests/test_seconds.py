"""Promises 2 and 4: cause and tick, and what a second does."""

import unittest

from helper import Desk, answers_of, cause, collector, reset, snapshot, tick, warning
from standingwarnings.seconds import quiet_seconds


class Cause2(unittest.TestCase):
    def test_ends(self):
        self.assertEqual(answers_of(cause(0, 0), cause(0, 1), cause(31, 0), cause(31, 1)), [[0]] * 4)
        for call in (cause(-1, 0), cause(32, 0), cause(0, -1), cause(0, 2), cause(32, 2)):
            with self.subTest(call):
                desk = Desk(cause(3, 1))
                before = snapshot(desk.panel)
                self.assertEqual(desk.do(call), [-1])
                self.assertEqual(snapshot(desk.panel), before)

    def test_all_are_off_at_first(self):
        self.assertEqual(answers_of(warning(cause=0), warning(cause=31), tick(600))[-1], [600, 0, 0])

    def test_each_cause_is_its_own(self):
        desk = Desk(warning(cause=0), warning(cause=31), warning(cause=7), cause(31, 1), tick(1))
        self.assertEqual([desk.stand(i)[2] for i in range(3)], [0, 1, 0])

    def test_warnings_look_at_it_in_the_next_second(self):
        desk = Desk(warning(), cause(0, 1))
        self.assertEqual(desk.stand(0), [0] * 8)
        desk.do(cause(0, 0))
        self.assertEqual(desk.do(tick(1)), [1, 0, 0])
        desk.do(cause(0, 1))
        self.assertEqual(desk.do(tick(1)), [2, 1, 0])
        desk.do(cause(0, 0))
        self.assertEqual(desk.stand(0), [1, 0, 1, 2, 0, 0, 1, 1])
        self.assertEqual(desk.do(tick(1)), [3, 0, 0])

    def test_setting_it_again_changes_nothing(self):
        desk = Desk(warning(on=2), cause(0, 1), tick(2), cause(0, 1), tick(1))
        self.assertEqual(desk.stand(0)[:4], [3, 0, 1, 3])


class Tick4(unittest.TestCase):
    def test_ends(self):
        self.assertEqual(answers_of(tick(0), tick(-1), tick(1), tick(600), tick(601), tick(1)),
                         [[-1], [-1], [1, 0, 0], [601, 0, 0], [-1], [602, 0, 0]])

    def test_a_clock_that_would_be_too_late(self):
        desk = Desk(warning(), cause(0, 1))
        desk.panel.clock = 999999990
        before = snapshot(desk.panel)
        self.assertEqual(desk.do(tick(11)), [-8])
        self.assertEqual(desk.do(tick(600)), [-8])
        self.assertEqual(desk.do(tick(0)), [-1])
        self.assertEqual(desk.do(tick(601)), [-1])
        self.assertEqual(snapshot(desk.panel), before)
        self.assertEqual(desk.do(tick(10)), [1000000000, 1, 0])
        self.assertEqual(desk.do(tick(1)), [-8])
        self.assertEqual(desk.panel.clock, 1000000000)

    def test_a_refused_tick_changes_nothing(self):
        desk = Desk(warning(), cause(0, 1))
        before = snapshot(desk.panel)
        for k in (0, -5, 601):
            self.assertEqual(desk.do(tick(k)), [-1])
        self.assertEqual(snapshot(desk.panel), before)

    def test_it_tells_how_many_are_shown_and_what_sounds(self):
        desk = Desk(warning(cause=0, rank=1), warning(cause=1, rank=2), warning(cause=2, rank=3), cause(0, 1))
        self.assertEqual(desk.do(tick(1)), [1, 1, 0])
        desk.do(cause(1, 1))
        self.assertEqual(desk.do(tick(1)), [2, 2, 1])
        desk.do(cause(2, 1))
        self.assertEqual(desk.do(tick(1)), [3, 3, 2])

    def test_one_long_tick_is_as_many_short_ones(self):
        told = [warning(on=2, off=5), warning(cause=1, on=7, off=1), collector(n=2, on=3, off=2, parts=[0, 1]),
                collector(n=1, parts=[2], latch=1)]
        long = Desk(*told)
        short = Desk(*told)
        for c, b, k in ((0, 1, 4), (1, 1, 30), (0, 0, 9), (1, 0, 1), (1, 1, 50), (1, 0, 50)):
            for desk in (long, short):
                desk.do(cause(c, b))
            long.do(tick(k))
            for _ in range(k):
                short.do(tick(1))
            self.assertEqual(snapshot(long.panel), snapshot(short.panel))


class Delays(unittest.TestCase):
    def test_just_the_on_delay_and_one_second_more(self):
        desk = Desk(warning(on=5), cause(0, 1), tick(5))
        self.assertEqual(desk.stand(0), [5, 0, 0, 0, 0, 0, 0, 0])
        desk.do(tick(1))
        self.assertEqual(desk.stand(0), [6, 0, 1, 6, 0, 0, 1, 1])

    def test_a_break_starts_the_on_delay_anew(self):
        desk = Desk(warning(on=5), cause(0, 1), tick(5), cause(0, 0), tick(1), cause(0, 1), tick(5))
        self.assertEqual(desk.stand(0), [5, 0, 0, 0, 0, 0, 0, 0])
        desk.do(tick(1))
        self.assertEqual(desk.stand(0), [6, 0, 1, 12, 0, 0, 1, 1])

    def test_just_the_off_delay_and_one_second_more(self):
        desk = Desk(warning(off=5), cause(0, 1), tick(1), cause(0, 0), tick(5))
        self.assertEqual(desk.stand(0), [0, 5, 1, 1, 0, 0, 1, 1])
        desk.do(tick(1))
        self.assertEqual(desk.stand(0), [0, 6, 0, 0, 0, 0, 0, 1])

    def test_a_return_starts_the_off_delay_anew(self):
        desk = Desk(warning(off=5), cause(0, 1), tick(1), cause(0, 0), tick(5), cause(0, 1), tick(1),
                    cause(0, 0), tick(5))
        self.assertEqual(desk.stand(0), [0, 5, 1, 1, 0, 0, 1, 1])
        desk.do(tick(1))
        self.assertEqual(desk.stand(0)[2], 0)

    def test_delays_of_0(self):
        desk = Desk(warning(), cause(0, 1), tick(1))
        self.assertEqual(desk.stand(0), [1, 0, 1, 1, 0, 0, 1, 1])
        desk.do(cause(0, 0))
        desk.do(tick(1))
        self.assertEqual(desk.stand(0), [0, 1, 0, 0, 0, 0, 0, 1])

    def test_the_longest_delays(self):
        desk = Desk(warning(on=3600, off=3600), cause(0, 1), *[tick(600)] * 6)
        self.assertEqual(desk.stand(0)[:3], [3600, 0, 0])
        desk.do(tick(1))
        self.assertEqual(desk.stand(0)[:4], [3601, 0, 1, 3601])
        desk.do(cause(0, 0))
        for _ in range(6):
            desk.do(tick(600))
        self.assertEqual(desk.stand(0)[:3], [0, 3600, 1])
        desk.do(tick(1))
        self.assertEqual(desk.stand(0)[:3], [0, 3601, 0])

    def test_it_comes_and_goes_within_one_tick_of_its_parts(self):
        desk = Desk(warning(off=9), cause(0, 1), tick(1), cause(0, 0), collector(n=1, on=3, off=2, parts=[0]),
                    tick(100))
        self.assertEqual(desk.log(), [(1, 1, 0), (1, 3, 0), (5, 1, 1), (5, 3, 1), (11, 2, 0), (13, 2, 1)])
        self.assertEqual(desk.stand(1), [0, 91, 0, 0, 0, 0, 0, 1])

    def test_how_often_it_came(self):
        desk = Desk(warning())
        for _ in range(3):
            desk.do(cause(0, 1))
            desk.do(tick(4))
            desk.do(cause(0, 0))
            desk.do(tick(4))
        self.assertEqual(desk.stand(0), [0, 4, 0, 0, 0, 0, 0, 3])

    def test_seconds_off_count_from_the_first_second(self):
        desk = Desk(warning(), tick(7), warning(), tick(2))
        self.assertEqual([desk.stand(0)[:2], desk.stand(1)[:2]], [[0, 9], [0, 2]])


class Latch(unittest.TestCase):
    def test_it_stays_though_its_source_is_off(self):
        desk = Desk(warning(latch=1), warning(latch=0), cause(0, 1), tick(3), cause(0, 0), tick(600))
        self.assertEqual(desk.stand(0), [0, 600, 1, 1, 0, 0, 1, 1])
        self.assertEqual(desk.stand(1)[2], 0)

    def test_it_comes_again_behind_a_reset(self):
        desk = Desk(warning(latch=1), cause(0, 1), tick(1), cause(0, 0), tick(1), reset(0), cause(0, 1), tick(1))
        self.assertEqual(desk.stand(0), [1, 0, 1, 3, 0, 0, 1, 2])

    def test_it_keeps_when_it_first_came(self):
        desk = Desk(warning(latch=1), cause(0, 1), tick(1), cause(0, 0), tick(5), cause(0, 1), tick(5))
        self.assertEqual(desk.stand(0), [5, 0, 1, 1, 0, 0, 1, 1])


class Collectors(unittest.TestCase):
    def test_one_part_fewer_than_n_and_just_n(self):
        parts = [warning(cause=0), warning(cause=1), warning(cause=2)]
        desk = Desk(*parts, collector(n=2, parts=[0, 1, 2]), cause(2, 1), tick(10))
        self.assertEqual(desk.stand(3), [0, 10, 0, 0, 0, 0, 0, 0])
        desk.do(cause(0, 1))
        desk.do(tick(1))
        self.assertEqual(desk.stand(3), [1, 0, 1, 11, 0, 0, 1, 1])
        desk.do(cause(1, 1))
        desk.do(tick(1))
        self.assertEqual(desk.stand(3), [2, 0, 1, 11, 0, 0, 1, 1])

    def test_parts_that_come_in_the_same_second(self):
        desk = Desk(warning(on=3), warning(on=3), collector(n=2, parts=[0, 1]), cause(0, 1), tick(4))
        self.assertEqual([desk.stand(i)[3] for i in range(3)], [4, 4, 4])

    def test_parts_that_go_in_the_same_second(self):
        desk = Desk(warning(), collector(parts=[0]), collector(parts=[1]), cause(0, 1), tick(1))
        self.assertEqual([desk.stand(i)[2] for i in range(3)], [1, 1, 1])
        desk.do(cause(0, 0))
        desk.do(tick(1))
        self.assertEqual([desk.stand(i)[2] for i in range(3)], [0, 0, 0])

    def test_its_own_delays(self):
        desk = Desk(warning(), collector(on=2, off=1, parts=[0]), cause(0, 1), tick(2))
        self.assertEqual(desk.stand(1)[:3], [2, 0, 0])
        desk.do(tick(1))
        self.assertEqual(desk.stand(1)[:4], [3, 0, 1, 3])
        desk.do(cause(0, 0))
        desk.do(tick(1))
        self.assertEqual(desk.stand(1)[:3], [0, 1, 1])
        desk.do(tick(1))
        self.assertEqual(desk.stand(1)[:3], [0, 2, 0])

    def test_it_looks_whether_parts_have_come_not_whether_they_are_shown(self):
        desk = Desk(warning(phases=[0]), collector(parts=[0]), cause(0, 1))
        self.assertEqual(desk.do(tick(1)), [1, 1, 0])
        self.assertEqual(desk.stand(0)[6], 0)
        self.assertEqual(desk.stand(1)[2], 1)

    def test_it_does_not_look_at_cause_0(self):
        desk = Desk(warning(cause=5), collector(parts=[0]), cause(0, 1), tick(3))
        self.assertEqual(desk.stand(1)[:3], [0, 3, 0])

    def test_a_latched_part_that_is_reset(self):
        desk = Desk(warning(latch=1), collector(parts=[0]), cause(0, 1), tick(1), cause(0, 0), tick(1), reset(0))
        self.assertEqual(desk.stand(1)[2], 1)
        desk.do(tick(1))
        self.assertEqual(desk.stand(1)[:3], [0, 1, 0])


class QuietSeconds(unittest.TestCase):
    """Taken in one step; fewer than there are would be right too, but slow."""

    def quiet(self, *calls):
        return quiet_seconds(Desk(*calls).panel, 600)

    def test_till_it_comes(self):
        self.assertEqual(self.quiet(warning(on=50), cause(0, 1)), 50)
        self.assertEqual(self.quiet(warning(on=50), cause(0, 1), tick(8)), 42)
        self.assertEqual(self.quiet(warning(on=50), cause(0, 1), tick(50)), 0)

    def test_till_it_goes(self):
        self.assertEqual(self.quiet(warning(off=50), cause(0, 1), tick(1), cause(0, 0)), 50)
        self.assertEqual(self.quiet(warning(off=50), cause(0, 1), tick(1), cause(0, 0), tick(50)), 0)

    def test_all_of_them(self):
        self.assertEqual(self.quiet(), 600)
        self.assertEqual(self.quiet(warning(on=50)), 600)
        self.assertEqual(self.quiet(warning(on=50), cause(0, 1), tick(51)), 600)
        self.assertEqual(self.quiet(warning(latch=1, off=50), cause(0, 1), tick(1), cause(0, 0)), 600)

    def test_the_fewest_of_all_warnings(self):
        self.assertEqual(self.quiet(warning(on=50), warning(on=30), warning(on=40), cause(0, 1)), 30)


if __name__ == "__main__":
    unittest.main()
