"""Promise 11 and what stands with it: list, page, why, sound, stand, told, log, state."""

import unittest

from helper import (Desk, ack, ack_all, answers_of, cancel, cause, collector, list_all, log, page, phase, recall,
                    reset, snapshot, sound, stand, state, tick, told, warning, why)


def mixed():
    """In the list's order 4, 5, 1, 2, 3, 0: of one rank some came in one second, some in different ones."""
    desk = Desk(warning(cause=0, rank=1), warning(cause=1, rank=2), warning(cause=2, rank=1),
                warning(cause=2, rank=1), warning(cause=1, rank=3), warning(cause=0, rank=3),
                warning(cause=9, rank=3))
    for c in range(3):
        desk.do(cause(c, 1))
        desk.do(tick(1))
    return desk


def shown_many(count):
    return Desk(*[warning()] * count, cause(0, 1), tick(1))


class Telling(unittest.TestCase):
    def tells(self, desk, call, wanted):
        """It answers so, also when asked once more, and nothing changes."""
        before = snapshot(desk.panel)
        self.assertEqual(desk.do(call), wanted)
        self.assertEqual(desk.do(call), wanted)
        self.assertEqual(snapshot(desk.panel), before)

    def no_such_warning(self, make):
        for desk in (Desk(), Desk(warning(), warning(), cause(0, 1), tick(1)), shown_many(24)):
            count = len(desk.panel.warnings)
            for i in (-1, count, count + 1, 25):
                self.tells(desk, make(i), [-1])
            if count:
                self.assertNotEqual(desk.do(make(0)), [-1])
                self.assertNotEqual(desk.do(make(count - 1)), [-1])


class List10(Telling):
    def test_empty(self):
        self.tells(Desk(), list_all(), [0])
        self.tells(Desk(warning()), list_all(), [0])
        self.tells(Desk(warning(phases=[0]), cause(0, 1), tick(1)), list_all(), [0])

    def test_number_rank_when_it_came_and_whether_acknowledged(self):
        self.tells(Desk(warning(cause=8), warning(rank=2, on=4), cause(0, 1), tick(7)), list_all(), [1, 1, 2, 5, 0])
        self.tells(Desk(warning(cause=8), warning(rank=2, on=4), cause(0, 1), tick(7), ack(1)), list_all(),
                   [1, 1, 2, 5, 1])

    def test_rank_then_later_then_number(self):
        desk = mixed()
        desk.do(ack(3))
        self.tells(desk, list_all(), [6, 4, 3, 2, 0, 5, 3, 1, 0, 1, 2, 2, 0, 2, 1, 3, 0, 3, 1, 3, 1, 0, 1, 1, 0])

    def test_only_what_is_shown(self):
        desk = Desk(warning(), warning(covers=[0]), warning(phases=[0]), warning(cause=1), warning(), cause(0, 1),
                    tick(1), ack(4), cancel(4))
        self.tells(desk, list_all(), [1, 0, 1, 1, 0])

    def test_when_it_came_the_last_time(self):
        desk = Desk(warning(), warning(), cause(0, 1), tick(1), cause(0, 0), tick(1), cause(0, 1), tick(2))
        self.tells(desk, list_all(), [2, 0, 1, 3, 0, 1, 1, 3, 0])

    def test_when_it_came_not_when_it_was_shown(self):
        desk = Desk(warning(cause=0, phases=[0]), warning(cause=1), cause(0, 1), tick(1), cause(1, 1), tick(1),
                    phase(1), tick(1))
        self.tells(desk, list_all(), [2, 1, 1, 2, 0, 0, 1, 1, 0])

    def test_24(self):
        answer = shown_many(24).do(list_all())
        self.assertEqual(answer, [24] + [number for i in range(24) for number in (i, 1, 1, 0)])


class Page11(Telling):
    def test_empty(self):
        for n in (1, 8):
            for p in (0, 1, 23):
                self.tells(Desk(), page(n, p), [0, 0])
                self.tells(Desk(warning()), page(n, p), [0, 0])

    def test_just_full(self):
        self.tells(shown_many(1), page(1, 0), [1, 1, 0])
        self.tells(shown_many(8), page(8, 0), [1, 8, 0, 1, 2, 3, 4, 5, 6, 7])
        self.tells(shown_many(8), page(8, 1), [1, 0])
        self.tells(shown_many(6), page(3, 1), [2, 3, 3, 4, 5])
        self.tells(shown_many(6), page(3, 2), [2, 0])

    def test_one_fewer_and_one_more_than_full(self):
        self.tells(shown_many(5), page(3, 1), [2, 2, 3, 4])
        self.tells(shown_many(7), page(3, 1), [3, 3, 3, 4, 5])
        self.tells(shown_many(7), page(3, 2), [3, 1, 6])
        self.tells(shown_many(7), page(8, 0), [1, 7, 0, 1, 2, 3, 4, 5, 6])
        self.tells(shown_many(9), page(8, 1), [2, 1, 8])

    def test_beyond_the_last(self):
        self.tells(shown_many(7), page(3, 3), [3, 0])
        self.tells(shown_many(7), page(3, 23), [3, 0])
        self.tells(shown_many(1), page(8, 1), [1, 0])

    def test_the_most_pages(self):
        desk = shown_many(24)
        self.tells(desk, page(1, 0), [24, 1, 0])
        self.tells(desk, page(1, 23), [24, 1, 23])
        self.tells(desk, page(8, 2), [3, 8, 16, 17, 18, 19, 20, 21, 22, 23])

    def test_in_the_order_of_the_list(self):
        desk = mixed()
        self.tells(desk, page(4, 0), [2, 4, 4, 5, 1, 2])
        self.tells(desk, page(4, 1), [2, 2, 3, 0])
        self.assertEqual([desk.do(page(1, p)) for p in range(7)],
                         [[6, 1, i] for i in (4, 5, 1, 2, 3, 0)] + [[6, 0]])

    def test_one_beyond_each_range(self):
        for desk in (Desk(), mixed()):
            for n, p in ((0, 0), (9, 0), (-1, 0), (1, -1), (1, 24), (8, 24), (0, 24), (9, -1)):
                self.tells(desk, page(n, p), [-1])


class Why12(Telling):
    def test_no_such_warning(self):
        self.no_such_warning(why)

    def test_0_not_come(self):
        self.tells(Desk(warning()), why(0), [0])
        self.tells(Desk(warning(on=1), cause(0, 1), tick(1)), why(0), [0])
        self.tells(Desk(warning(), cause(0, 1), tick(1), cause(0, 0), tick(1)), why(0), [0])

    def test_0_though_it_would_be_held_back_and_covered(self):
        self.tells(Desk(warning(), warning(cause=1, phases=[0], covers=[0]), cause(0, 1), tick(1)), why(1), [0])

    def test_1_shown(self):
        self.tells(Desk(warning(), cause(0, 1), tick(1)), why(0), [1])
        self.tells(Desk(warning(), cause(0, 1), tick(1), ack(0)), why(0), [1])
        self.tells(Desk(warning(phases=[3]), cause(0, 1), tick(1), phase(3)), why(0), [1])

    def test_1_though_one_that_covers_it_has_come(self):
        self.tells(Desk(warning(), warning(covers=[0]), cause(0, 1), tick(1), ack(0), cancel(0)), why(1), [1])

    def test_2_cancelled(self):
        desk = Desk(warning(), cause(0, 1), tick(1), ack(0), cancel(0))
        self.tells(desk, why(0), [2])
        desk.do(recall())
        self.tells(desk, why(0), [1])

    def test_2_ahead_of_4(self):
        desk = Desk(warning(cause=1), warning(covers=[0]), cause(0, 1), tick(1), ack(1), cancel(1), cause(1, 1),
                    tick(1))
        self.tells(desk, why(1), [2])
        desk.do(recall())
        self.tells(desk, why(1), [4, 0])

    def test_2_in_one_of_its_phases(self):
        desk = Desk(warning(phases=[3]), cause(0, 1), tick(1), ack(0), cancel(0), phase(3))
        self.tells(desk, why(0), [2])

    def test_3_held_back(self):
        desk = Desk(warning(phases=[0, 4]), cause(0, 1), tick(1))
        self.tells(desk, why(0), [3])
        desk.do(phase(4))
        self.tells(desk, why(0), [3])
        desk.do(phase(5))
        self.tells(desk, why(0), [1])

    def test_3_ahead_of_4(self):
        desk = Desk(warning(), warning(phases=[0], covers=[0]), cause(0, 1), tick(1))
        self.tells(desk, why(1), [3])
        desk.do(phase(1))
        self.tells(desk, why(1), [4, 0])

    def test_4_covered(self):
        self.tells(Desk(warning(), warning(covers=[0]), cause(0, 1), tick(1)), why(1), [4, 0])

    def test_4_the_smallest_of_those_shown(self):
        desk = Desk(warning(), warning(), warning(), warning(covers=[1, 2]), cause(0, 1), tick(1))
        self.tells(desk, why(3), [4, 1])

    def test_4_only_a_later_one_is_shown(self):
        # Of those that cover 6, 0 has not come, 1 is held back, 2 is cancelled, 4 is covered; 5 is shown.
        desk = Desk(warning(cause=1), warning(phases=[0]), warning(), warning(), warning(covers=[3]),
                    warning(), warning(covers=[0, 1, 2, 4, 5]), cause(0, 1), tick(1), ack(2), cancel(2))
        self.assertEqual([desk.do(why(i)) for i in range(6)], [[0], [3], [2], [1], [4, 3], [1]])
        self.tells(desk, why(6), [4, 5])

    def test_4_shown_before_in_one_of_its_phases(self):
        desk = Desk(warning(cause=1), warning(phases=[3], covers=[0]), cause(0, 1), tick(1), phase(3), cause(1, 1),
                    tick(1))
        self.tells(desk, why(1), [4, 0])


class Sound13(Telling):
    def test_silence(self):
        self.tells(Desk(), sound(), [0])
        self.tells(Desk(warning(rank=3), cause(0, 1)), sound(), [0])

    def test_by_rank(self):
        for rank, sounds in ((1, 0), (2, 1), (3, 2)):
            desk = Desk(warning(rank=rank), cause(0, 1), tick(1))
            self.tells(desk, sound(), [sounds])
            desk.do(ack(0))
            self.tells(desk, sound(), [0])

    def test_the_highest_that_is_not_acknowledged(self):
        desk = Desk(warning(rank=2), warning(rank=3), warning(rank=3), warning(rank=1), cause(0, 1), tick(1))
        for i, sounds in ((1, 2), (2, 1), (0, 0)):
            desk.do(ack(i))
            self.tells(desk, sound(), [sounds])

    def test_only_what_is_shown(self):
        desk = Desk(warning(rank=2), warning(rank=3, covers=[0]), warning(rank=3, phases=[0]), cause(0, 1), tick(1))
        self.tells(desk, sound(), [1])
        desk.do(phase(1))
        self.tells(desk, sound(), [2])

    def test_covered_once_more(self):
        desk = Desk(warning(cause=1), warning(rank=3, covers=[0]), cause(0, 1), tick(1))
        self.tells(desk, sound(), [2])
        desk.do(cause(1, 1))
        desk.do(tick(1))
        self.tells(desk, sound(), [0])


class Stand14(Telling):
    def test_no_such_warning(self):
        self.no_such_warning(stand)

    def test_new(self):
        self.tells(Desk(tick(9), warning()), stand(0), [0, 0, 0, 0, 0, 0, 0, 0])

    def test_before_it_comes(self):
        self.tells(Desk(warning(on=5), tick(3)), stand(0), [0, 3, 0, 0, 0, 0, 0, 0])
        self.tells(Desk(warning(on=5), tick(3), cause(0, 1), tick(5)), stand(0), [5, 0, 0, 0, 0, 0, 0, 0])

    def test_has_come(self):
        self.tells(Desk(warning(on=5), tick(3), cause(0, 1), tick(8)), stand(0), [8, 0, 1, 9, 0, 0, 1, 1])

    def test_come_but_not_shown(self):
        self.tells(Desk(warning(phases=[0]), cause(0, 1), tick(2)), stand(0), [2, 0, 1, 1, 0, 0, 0, 1])

    def test_went(self):
        desk = Desk(warning(off=1), cause(0, 1), tick(2), ack(0), cancel(0), cause(0, 0), tick(1))
        self.tells(desk, stand(0), [0, 1, 1, 1, 1, 1, 1, 1])
        desk.do(tick(1))
        self.tells(desk, stand(0), [0, 2, 0, 0, 0, 0, 0, 1])
        desk.do(cause(0, 1))
        desk.do(tick(1))
        self.tells(desk, stand(0), [1, 0, 1, 5, 0, 0, 1, 2])

    def test_was_reset(self):
        desk = Desk(warning(latch=1), cause(0, 1), tick(2), ack(0), cause(0, 0), tick(4))
        self.tells(desk, stand(0), [0, 4, 1, 1, 1, 0, 1, 1])
        desk.do(reset(0))
        self.tells(desk, stand(0), [0, 4, 0, 0, 0, 0, 0, 1])

    def test_was_cancelled_and_called_back(self):
        desk = Desk(warning(), cause(0, 1), tick(2), ack(0), cancel(0))
        self.tells(desk, stand(0), [2, 0, 1, 1, 1, 1, 1, 1])
        desk.do(recall())
        self.tells(desk, stand(0), [2, 0, 1, 1, 1, 0, 1, 1])

    def test_of_a_collector(self):
        desk = Desk(warning(), collector(on=2, parts=[0]), cause(0, 1), tick(3))
        self.tells(desk, stand(1), [3, 0, 1, 3, 0, 0, 1, 1])

    def test_plain_whole_numbers(self):
        for number in Desk(warning(), cause(0, 1), tick(1)).do(stand(0)):
            self.assertIs(type(number), int)


class Told15(Telling):
    def test_no_such_warning(self):
        self.no_such_warning(told)

    def test_plain_with_empty_rows(self):
        self.tells(Desk(warning(cause=31, rank=3, on=3600, off=7, latch=1)), told(0), [31, 0, 3, 3600, 7, 1, 0, 0, 0])
        self.tells(Desk(warning(cause=0, rank=1, on=0, off=3600)), told(0), [0, 0, 1, 0, 3600, 0, 0, 0, 0])

    def test_plain_with_rows(self):
        three = [warning(), warning(), warning()]
        self.tells(Desk(*three, warning(cause=5, phases=[0, 9])), told(3), [5, 0, 1, 0, 0, 0, 0, 2, 0, 9, 0])
        self.tells(Desk(*three, warning(cause=5, covers=[1, 2])), told(3), [5, 0, 1, 0, 0, 0, 0, 0, 2, 1, 2])
        self.tells(Desk(*three, warning(cause=5, phases=range(10), covers=[0])), told(3),
                   [5, 0, 1, 0, 0, 0, 0, 10, 0, 1, 2, 3, 4, 5, 6, 7, 8, 9, 1, 0])

    def test_collector(self):
        three = [warning(cause=4), warning(cause=4), warning(cause=4)]
        self.tells(Desk(*three, collector(n=2, rank=2, on=1, off=3, latch=1, parts=[0, 2])), told(3),
                   [0, 2, 2, 1, 3, 1, 2, 0, 2, 0, 0])
        self.tells(Desk(*three, collector(parts=[1], phases=[6])), told(3), [0, 1, 1, 0, 0, 0, 1, 1, 1, 6, 0])
        self.tells(Desk(*three, collector(parts=[1], covers=[0, 2])), told(3), [0, 1, 1, 0, 0, 0, 1, 1, 0, 2, 0, 2])
        self.tells(Desk(*three, collector(n=3, parts=[0, 1, 2], phases=[6, 7], covers=[1])), told(3),
                   [0, 3, 1, 0, 0, 0, 3, 0, 1, 2, 2, 6, 7, 1, 1])

    def test_the_most_parts(self):
        desk = Desk(*[warning()] * 23, collector(n=23, parts=range(23), covers=range(23)))
        self.tells(desk, told(23), [0, 23, 1, 0, 0, 0, 23] + list(range(23)) + [0, 23] + list(range(23)))

    def test_it_stays_as_told(self):
        desk = Desk(warning(cause=3, on=2, off=2, phases=[1]), cause(3, 1), tick(9), phase(1), ack_all())
        self.tells(desk, told(0), [3, 0, 1, 2, 2, 0, 0, 1, 1, 0])


class Log16(Telling):
    def test_nothing_happened(self):
        self.tells(Desk(), log(), [0, 0])
        self.tells(Desk(warning(), tick(5), phase(3), cause(0, 1), ack_all(), recall()), log(), [0, 0])

    def test_each_kind(self):
        desk = Desk(warning(latch=1), cause(0, 1), tick(2), ack(0), cancel(0), tick(1), recall(), cause(0, 0), tick(1),
                    reset(0), warning(), cause(0, 1), tick(1), cause(0, 0), tick(1))
        self.tells(desk, log(), [12, 12,
                                 1, 1, 0, 1, 3, 0, 2, 4, 0, 2, 5, 0, 3, 6, 0, 4, 2, 0, 4, 7, 0,
                                 5, 1, 0, 5, 3, 0, 5, 1, 1, 5, 3, 1, 6, 2, 1])

    def test_the_events_of_one_second(self):
        # 0 goes and uncovers 1; 2 comes and covers 3, which comes too; 4 comes, collects 3 and is shown.
        desk = Desk(warning(cause=0), warning(cause=1, covers=[0]), warning(cause=2), warning(cause=2, covers=[2]),
                    collector(parts=[3]), cause(0, 1), cause(1, 1), tick(1))
        self.tells(desk, log(), [3, 3, 1, 1, 0, 1, 3, 0, 1, 1, 1])
        desk.do(cause(0, 0))
        desk.do(cause(2, 1))
        desk.do(tick(1))
        self.tells(desk, log(), [10, 10, 1, 1, 0, 1, 3, 0, 1, 1, 1,
                                 2, 2, 0, 2, 3, 1, 2, 1, 2, 2, 3, 2, 2, 1, 3, 2, 1, 4, 2, 3, 4])

    def test_a_cancelling_that_brings_others_to_be_shown(self):
        desk = Desk(warning(), warning(covers=[0]), warning(covers=[0]), cause(0, 1), tick(1), ack(0), tick(1),
                    cancel(0))
        self.assertEqual(desk.do(log())[-9:], [2, 3, 1, 2, 3, 2, 2, 5, 0])

    def test_a_reset_that_brings_another_to_be_shown(self):
        desk = Desk(warning(cause=1), warning(latch=1), warning(cause=1, covers=[1]), cause(0, 1), cause(1, 1),
                    tick(1), cause(0, 0), tick(1), reset(1))
        self.assertEqual(desk.do(log())[-9:], [2, 2, 1, 2, 3, 2, 2, 7, 1])

    def test_a_recall_of_several(self):
        desk = Desk(warning(), warning(), cause(0, 1), tick(1), ack_all(), cancel(1), cancel(0), recall())
        self.assertEqual(desk.do(log())[-12:], [1, 5, 1, 1, 5, 0, 1, 6, 0, 1, 6, 1])

    def test_199_200_and_201(self):
        desk = Desk(warning(phases=[0]), cause(0, 1), tick(1))
        for turn in range(198):
            desk.do(cause(0, turn % 2))
            desk.do(tick(1))
        # Held back it came, and 99 times went and came again.
        self.events_are(desk, 199, 199, [1, 1, 0], [199, 1, 0])
        desk.do(phase(1))
        self.events_are(desk, 200, 200, [1, 1, 0], [199, 3, 0])
        desk.do(ack(0))
        self.events_are(desk, 201, 200, [2, 2, 0], [199, 4, 0])

    def events_are(self, desk, ever, kept, oldest, newest):
        answer = desk.do(log())
        self.assertEqual(answer[:2], [ever, kept])
        self.assertEqual(len(answer), 2 + 3 * kept)
        self.assertEqual((answer[2:5], answer[-3:]), (oldest, newest))

    def test_many_more(self):
        desk = Desk(*[warning()] * 24)
        for turn in range(50):
            desk.do(cause(0, 1 - turn % 2))
            desk.do(tick(1))
        # The seconds 46 to 50 have 24 + 48 + 24 + 48 + 24 events, so of second 45 the last 32 are kept.
        self.events_are(desk, 1800, 200, [45, 1, 8], [50, 2, 23])


class State19(Telling):
    def test_at_first(self):
        self.tells(Desk(), state(), [0, 0, 0, 0])

    def test_no_cause_on(self):
        self.tells(Desk(warning(), cause(3, 1), cause(3, 0), phase(9), tick(600)), state(), [600, 9, 0, 1])

    def test_some(self):
        self.tells(Desk(cause(7, 1), cause(2, 1), cause(12, 1), cause(7, 1)), state(), [0, 0, 3, 2, 7, 12, 0])

    def test_0_and_31(self):
        self.tells(Desk(cause(0, 1)), state(), [0, 0, 1, 0, 0])
        self.tells(Desk(cause(31, 1)), state(), [0, 0, 1, 31, 0])
        self.tells(Desk(cause(31, 1), warning(), cause(0, 1), tick(4)), state(), [4, 0, 2, 0, 31, 1])

    def test_all(self):
        desk = Desk(*[warning()] * 24, *[cause(c, 1) for c in reversed(range(32))], phase(5), tick(2))
        self.tells(desk, state(), [2, 5, 32] + list(range(32)) + [24])

    def test_collectors_count_as_warnings(self):
        self.tells(Desk(warning(), collector(parts=[0])), state(), [0, 0, 0, 2])

    def test_what_is_refused_does_not_show(self):
        self.assertEqual(answers_of(cause(32, 1), phase(10), tick(601), warning(rank=4), state())[-1], [0, 0, 0, 0])


if __name__ == "__main__":
    unittest.main()
