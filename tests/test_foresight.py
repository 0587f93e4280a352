"""Promises 17 and 18: next and ahead; and that the calls from 10 on change nothing."""

import random
import time
import unittest

from helper import (Desk, Model, a_line, a_telling_call, ack, ack_all, ahead, answers_of, cancel, cause, collector,
                    list_all, log, next_change, page, phase, recall, reset, snapshot, sound, stand, state, tick, told,
                    warning, why)

LATEST = 1000000000


def numbers_listed(desk):
    return desk.do(list_all())[1::4]


class Foreseeing(unittest.TestCase):
    def tells(self, desk, call, wanted):
        before = snapshot(desk.panel)
        self.assertEqual(desk.do(call), wanted)
        self.assertEqual(desk.do(call), wanted)
        self.assertEqual(snapshot(desk.panel), before)


class Next17(Foreseeing):
    def next_is(self, wanted, *calls):
        self.tells(Desk(*calls), next_change(), [wanted])

    def test_nothing_to_change(self):
        self.next_is(0)
        self.next_is(0, warning())
        self.next_is(0, warning(), cause(0, 1), tick(1))
        self.next_is(0, warning(on=5), cause(1, 1))

    def test_after_1(self):
        self.next_is(1, warning(), cause(0, 1))
        self.next_is(1, warning(), cause(0, 1), tick(1), cause(0, 0))
        self.next_is(1, warning(on=50), cause(0, 1), tick(50))

    def test_in_between(self):
        self.next_is(51, warning(on=50), cause(0, 1))
        self.next_is(41, warning(on=50), cause(0, 1), tick(10))
        self.next_is(51, warning(off=50), cause(0, 1), tick(9), cause(0, 0))
        self.next_is(31, warning(on=50), warning(on=30), warning(on=40), cause(0, 1))

    def test_after_3600(self):
        self.next_is(3600, warning(on=3599), cause(0, 1))
        self.next_is(3600, warning(on=3600), cause(0, 1), tick(1))
        self.next_is(3600, warning(off=3599), cause(0, 1), tick(1), cause(0, 0))

    def test_only_after_3601(self):
        self.next_is(0, warning(on=3600), cause(0, 1))
        self.next_is(0, warning(off=3600), cause(0, 1), tick(1), cause(0, 0))

    def test_by_way_of_a_part_that_is_not_shown(self):
        part = warning(on=3000, phases=[0])
        self.next_is(3599, part, collector(on=598, parts=[0]), cause(0, 1))
        self.next_is(3600, part, collector(on=599, parts=[0]), cause(0, 1))
        self.next_is(0, part, collector(on=600, parts=[0]), cause(0, 1))

    def test_a_warning_that_comes_and_is_not_shown(self):
        self.next_is(0, warning(on=5, phases=[0]), cause(0, 1))
        self.next_is(0, warning(), warning(on=5, covers=[0]), cause(0, 1), tick(1))
        self.next_is(21, warning(), warning(on=5, covers=[0]), warning(on=9, phases=[0]), warning(on=21), cause(0, 1),
                     tick(1))

    def test_a_warning_that_goes_and_was_not_shown(self):
        self.next_is(0, warning(off=5), cause(0, 1), tick(1), ack(0), cancel(0), cause(0, 0))
        self.next_is(0, warning(off=5, phases=[0]), cause(0, 1), tick(1), cause(0, 0))

    def test_as_many_but_others(self):
        # 0 goes in the very second in which 1 comes.
        self.next_is(6, warning(cause=0, off=5), warning(cause=1, on=5), cause(0, 1), tick(1), cause(0, 0),
                     cause(1, 1))
        # 1 comes and covers 2.
        self.next_is(6, warning(cause=2), warning(cause=1, on=5), warning(cause=0, covers=[1]), cause(0, 1), tick(1),
                     cause(1, 1))

    def test_uncovered(self):
        self.next_is(8, warning(cause=0, off=7), warning(cause=1, covers=[0]), cause(0, 1), cause(1, 1), tick(1),
                     cause(0, 0))

    def test_a_latched_one_stays(self):
        self.next_is(0, warning(latch=1, off=7), cause(0, 1), tick(1), cause(0, 0))

    def test_a_reset_part_takes_its_collector_along(self):
        self.next_is(4, warning(latch=1, phases=[0]), collector(off=3, parts=[0]), cause(0, 1), tick(1), cause(0, 0),
                     tick(1), reset(0))

    def test_the_phase_stays(self):
        self.next_is(0, warning(on=4, phases=[2]), phase(2), cause(0, 1))
        self.next_is(5, warning(on=4, phases=[2]), phase(3), cause(0, 1))

    def test_whatever_the_clock(self):
        for clock in (LATEST - 4, LATEST - 1, LATEST):
            desk = Desk(warning(on=4), cause(0, 1))
            desk.panel.clock = clock
            self.tells(desk, next_change(), [5])
            desk.do(cause(0, 0))
            self.tells(desk, next_change(), [0])

    def test_the_list_changes_just_then(self):
        for seed in range(60):
            desk = Desk()
            for call in a_line(seed):
                desk.do(call)
            seconds = desk.do(next_change())[0]
            now = numbers_listed(desk)
            for _ in range(seconds - 1):
                desk.do(tick(1))
                self.assertEqual(numbers_listed(desk), now, seed)
            if seconds > 0:
                desk.do(tick(1))
                self.assertNotEqual(numbers_listed(desk), now, seed)

    def test_the_whole_3600_seconds_one_by_one(self):
        for on, wanted in ((3598, 3599), (3599, 3600), (3600, 0)):
            model = Model()
            for call in (warning(on=on), warning(cause=1, phases=[0]), cause(0, 1)):
                model.do(call)
            self.assertEqual(model.do(next_change()), [wanted])
            self.next_is(wanted, warning(on=on), warning(cause=1, phases=[0]), cause(0, 1))


class OrderAlone(unittest.TestCase):
    """What is shown before and behind a second came when it came: so with the same numbers the order is the same,
    and next finds another order only where the numbers are others."""

    def test_no_second_changes_the_order_alone(self):
        for seed in range(60):
            desk = Desk()
            before = []
            for call in a_line(seed):
                if call[0] != 4:
                    desk.do(call)
                    before = numbers_listed(desk)
                    continue
                for _ in range(max(0, min(call[1], 600))):
                    desk.do(tick(1))
                    behind = numbers_listed(desk)
                    if sorted(behind) == sorted(before):
                        self.assertEqual(behind, before, seed)
                    before = behind

    def test_the_same_numbers_in_another_order_by_way_of_others(self):
        # 2 goes with 0 and comes again with 1, which are both held back: the list is 3 2, then 3, then 2 3.
        desk = Desk(warning(cause=0, off=5, phases=[0]), warning(cause=1, on=9, phases=[0]), collector(parts=[0, 1]),
                    warning(cause=2), cause(0, 1), tick(1), cause(2, 1), tick(1), cause(0, 0), cause(1, 1))
        self.assertEqual(numbers_listed(desk), [3, 2])
        self.assertEqual(desk.do(next_change()), [6])
        desk.do(tick(6))
        self.assertEqual(numbers_listed(desk), [3])
        self.assertEqual(desk.do(next_change()), [4])
        desk.do(tick(4))
        self.assertEqual(numbers_listed(desk), [2, 3])
        self.assertEqual(desk.do(next_change()), [0])


class Ahead18(Foreseeing):
    def test_one_beyond_each_end(self):
        for k in (0, -1, 601, 602):
            self.tells(Desk(), ahead(k), [-1])
            self.tells(Desk(warning(), cause(0, 1)), ahead(k), [-1])

    def test_each_end(self):
        self.tells(Desk(), ahead(1), [0])
        self.tells(Desk(), ahead(600), [0])
        desk = Desk(warning(), warning(rank=2, on=599), warning(rank=3, on=600), cause(0, 1))
        self.tells(desk, ahead(1), [1, 0, 1, 1, 0])
        self.tells(desk, ahead(599), [1, 0, 1, 1, 0])
        self.tells(desk, ahead(600), [2, 1, 2, 600, 0, 0, 1, 1, 0])

    def test_a_clock_that_would_be_too_late(self):
        desk = Desk(warning(), cause(0, 1))
        desk.panel.clock = LATEST - 10
        self.tells(desk, ahead(11), [-8])
        self.tells(desk, ahead(600), [-8])
        self.tells(desk, ahead(10), [1, 0, 1, LATEST - 9, 0])
        self.tells(desk, ahead(0), [-1])
        self.tells(desk, ahead(601), [-1])
        desk.panel.clock = LATEST
        self.tells(desk, ahead(1), [-8])

    def test_acknowledged_stays_and_goes(self):
        desk = Desk(warning(off=2), warning(cause=1), cause(0, 1), cause(1, 1), tick(1), ack_all(), cause(0, 0))
        self.tells(desk, ahead(2), [2, 0, 1, 1, 1, 1, 1, 1, 1])
        self.tells(desk, ahead(3), [1, 1, 1, 1, 1])

    def test_uncovered_on_the_way(self):
        desk = Desk(warning(cause=0, off=3), warning(cause=1, covers=[0]), cause(0, 1), cause(1, 1), tick(1),
                    cause(0, 0))
        self.tells(desk, ahead(3), [1, 0, 1, 1, 0])
        self.tells(desk, ahead(4), [1, 1, 1, 1, 0])

    def test_held_back_when_it_comes_again_on_the_way(self):
        # 2 was shown ahead of the phase; it goes with 0 and comes again with 1.
        desk = Desk(warning(cause=0, off=5, phases=[0, 2]), warning(cause=1, on=9, phases=[0, 2]),
                    collector(parts=[0, 1], phases=[2]), cause(0, 1), tick(1), phase(2), cause(0, 0), cause(1, 1))
        self.tells(desk, ahead(5), [1, 2, 1, 1, 0])
        self.tells(desk, ahead(6), [0])
        self.tells(desk, ahead(10), [0])
        desk.do(tick(10))
        self.assertEqual(desk.do(why(2)), [3])

    def test_as_list_behind_a_tick(self):
        for seed in range(100):
            draw = random.Random(seed)
            line = a_line(seed)
            for k in (1, 2, draw.randint(3, 60), draw.randint(61, 599), 600):
                desk = Desk()
                for call in line:
                    desk.do(call)
                foreseen = desk.do(ahead(k))
                desk.do(tick(k))
                self.assertEqual(foreseen, desk.do(list_all()), (seed, k))


class ChangeNothing(unittest.TestCase):
    def test_with_and_without_them(self):
        for seed in range(150):
            draw = random.Random(seed)
            line = a_line(seed)
            mixed = []
            own = []
            for call in line:
                for _ in range(draw.choice([0, 0, 1, 2])):
                    mixed.append(a_telling_call(draw, 6))
                own.append(len(mixed))
                mixed.append(call)
            # What is told at the end shows what no changing call answers.
            end = [list_all(), log(), state()] + [stand(0), told(0), why(0), next_change(), ahead(600)]
            without = answers_of(*line, *end)
            with_them = answers_of(*mixed, *end)
            self.assertEqual([with_them[at] for at in own], without[:len(line)], seed)
            self.assertEqual(with_them[len(mixed):], without[len(line):], seed)

    def test_each_by_itself(self):
        desk = Desk(warning(on=2, phases=[3]), warning(cause=1, rank=3, latch=1), warning(cause=1, covers=[1]),
                    collector(parts=[0, 1], on=4), cause(1, 1), tick(1), ack(1), cause(0, 1), cause(1, 0), phase(3),
                    tick(1))
        before = snapshot(desk.panel)
        for call in (list_all(), page(1, 0), why(2), sound(), stand(0), told(3), log(), next_change(), ahead(1),
                     ahead(600), state(), page(0, 0), why(4), stand(-1), told(4), ahead(0)):
            desk.do(call)
            self.assertEqual(snapshot(desk.panel), before, call)

    def test_what_is_told_is_not_what_is_kept(self):
        desk = Desk(warning(), warning(phases=[1, 2], covers=[0]), collector(parts=[0, 1]), cause(0, 1), tick(1))
        before = snapshot(desk.panel)
        for call in (told(1), told(2), log(), list_all(), state()):
            desk.do(call).clear()
        self.assertEqual(snapshot(desk.panel), before)


class LongLines(unittest.TestCase):
    def in_time(self, calls):
        self.assertEqual(len(calls), 400)
        start = time.perf_counter()
        answered = answers_of(*calls)
        self.assertLess(time.perf_counter() - start, 10)
        self.assertEqual(len(answered), 400)
        return answered

    def test_long_delays(self):
        calls = [warning(cause=i, rank=1 + i % 3, on=3600, off=3600 - i) for i in range(12)]
        calls += [collector(n=i + 1, on=3600 - 100 * i, off=3600, parts=range(12 + i), covers=[i]) for i in range(12)]
        calls += [cause(i, 1) for i in range(12)]
        calls += [next_change(), ahead(600), tick(1)] * 121
        calls += [log()]
        answered = self.in_time(calls)
        self.assertEqual(answered[36:39], [[0], [0], [1, 0, 0]])
        self.assertEqual(answered[39:42], [[3600], [0], [2, 0, 0]])
        self.assertEqual(answered[-4:], [[3481], [0], [121, 0, 0], [0, 0]])

    def test_much_that_comes_and_goes_out_of_sight(self):
        # Held back all of it, so next has to look through the whole of its 3600 seconds.
        calls = [warning(cause=i % 2, on=280 * i * (i % 2), off=280 * i, phases=[0]) for i in range(12)]
        calls += [collector(n=6 + i % 2, on=5 * i, off=4 * i, parts=range(12 + i // 2), phases=[0]) for i in range(12)]
        calls += [cause(0, 1)] + [tick(600)] * 7 + [cause(0, 0), cause(1, 1)]
        calls += [next_change(), ahead(600)] * 183
        answered = self.in_time(calls)
        self.assertEqual(answered[34:], [[0], [0]] * 183)

    def test_the_longest_logs(self):
        calls = [warning()] * 24 + [cause(0, 1), tick(1), ack_all(), cause(0, 0), tick(1)] * 4
        calls += [log()] * (400 - len(calls))
        answered = self.in_time(calls)
        self.assertEqual(answered[-1][:2], [384, 200])

    def test_the_calls_of_a_whole_day_at_the_panel(self):
        draw = random.Random(5)
        calls = [warning(cause=i, rank=1 + i % 3, on=draw.randint(0, 3600), off=draw.randint(0, 3600),
                         phases=[i % 10]) for i in range(14)]
        calls += [collector(n=1 + i % 4, rank=2, on=draw.randint(0, 900), off=draw.randint(0, 900),
                            parts=range(14), covers=[i]) for i in range(10)]
        while len(calls) < 396:
            calls += [cause(draw.randint(0, 13), draw.randint(0, 1)), next_change(), ahead(draw.randint(1, 600)),
                      tick(draw.randint(1, 600))]
        calls += [ack_all(), phase(1), recall(), reset(0)]
        self.in_time(calls[:400])


if __name__ == "__main__":
    unittest.main()
