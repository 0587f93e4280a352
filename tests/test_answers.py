"""The interface: how calls are laid, how answers are laid, and that nothing is kept or changed."""

import unittest

from helper import (FAR, ack, ack_all, ahead, answers_of, cancel, cause, collector, page, parted, phase, recall, reset,
                    stand, tick, told, warning, why)
from standingwarnings.panel import answers

ONE_OF_EACH = [
    0, 3, 2, 1, 0, 1, 2, 4, 9, 0,
    1, 1, 3, 0, 0, 0, 1, 0, 0, 1, 0,
    2, 3, 1,
    3, 5,
    4, 2,
    5, 0,
    6,
    7, 0,
    8,
    9, 0,
    10,
    11, 1, 1,
    12, 1,
    13,
    14, 0,
    15, 1,
    16,
    17,
    18, 600,
    19,
]


class Layout(unittest.TestCase):
    def test_each_answer_stands_behind_its_length(self):
        self.assertEqual(
            answers(ONE_OF_EACH),
            [1, 0, 1, 1, 1, 0, 1, 0, 3, 2, 1, 1, 1, 0, 1, 0, 1, 0, 1, 1, 1, -7,
             5, 1, 0, 2, 2, 1,
             2, 1, 0,
             2, 4, 0,
             1, 0,
             8, 2, 0, 1, 2, 1, 0, 1, 1,
             11, 0, 1, 3, 0, 0, 0, 1, 0, 0, 1, 0,
             23, 7, 7, 2, 1, 0, 2, 3, 0, 2, 1, 1, 2, 4, 0, 2, 3, 1, 2, 5, 0, 2, 6, 0,
             1, 0,
             5, 1, 0, 2, 2, 1,
             5, 2, 5, 1, 3, 2])

    def test_a_refusal_stands_alone(self):
        self.assertEqual(answers([4, 0]), [1, -1])
        self.assertEqual(answers([4, 601, 4, 600]), [1, -1, 3, 600, 0, 0])

    def test_rows_are_read_by_their_lengths(self):
        long_row = list(range(32))
        self.assertEqual(
            answers_of(warning(phases=long_row), warning(covers=long_row), collector(parts=long_row, covers=[1]),
                       warning(phases=range(10)), tick(1)),
            [[-1], [-4], [-4], [0], [1, 0, 0]])

    def test_rows_of_numbers_that_look_like_calls(self):
        self.assertEqual(
            answers_of(warning(phases=[4, 4, 4]), warning(phases=[4, 6, 8]), warning(covers=[4, 1]), tick(3)),
            [[-1], [0], [-4], [3, 0, 0]])

    def test_numbers_as_far_as_they_go(self):
        calls = []
        for far in (FAR, -FAR):
            calls += [warning(cause=far), warning(rank=far), warning(on=far), warning(off=far), warning(latch=far),
                      warning(phases=[far]), collector(n=far), cause(far, 0), cause(0, far), phase(far), tick(far),
                      ack(far), cancel(far), reset(far), page(far, 0), page(1, far), why(far), stand(far), told(far),
                      ahead(far)]
        self.assertEqual(answers_of(*calls), [[-1]] * len(calls))
        self.assertEqual(answers_of(warning(covers=[FAR]), warning(covers=[-FAR])), [[-4], [-4]])

    def test_answers_are_plain_whole_numbers(self):
        answered = answers(ONE_OF_EACH)
        self.assertIs(type(answered), list)
        self.assertEqual({type(number) for number in answered}, {int})


class NothingKept(unittest.TestCase):
    def test_the_list_handed_in_stays_as_it_was(self):
        calls = list(ONE_OF_EACH)
        answers(calls)
        self.assertEqual(calls, ONE_OF_EACH)

    def test_two_times_with_the_same_list_answer_the_same(self):
        calls = list(ONE_OF_EACH)
        first = answers(calls)
        self.assertEqual(answers(calls), first)

    def test_a_line_is_on_a_new_panel(self):
        answers(warning() + cause(0, 1) + phase(4) + tick(7))
        self.assertEqual(answers_of(tick(1), ack(0), ack_all(), recall(), warning(), warning(phases=[0]), tick(1)),
                         [[1, 0, 0], [-1], [0], [0], [0], [1], [2, 0, 0]])

    def test_an_answer_may_be_changed_by_who_gets_it(self):
        first = answers(ONE_OF_EACH)
        wanted = list(first)
        first.clear()
        self.assertEqual(answers(ONE_OF_EACH), wanted)


class LongLines(unittest.TestCase):
    def test_400_calls(self):
        answered = answers_of(*([tick(600)] * 400))
        self.assertEqual(answered[-1], [240000, 0, 0])
        self.assertEqual(len(answered), 400)

    def test_400_calls_with_many_warnings(self):
        calls = [warning(cause=i, rank=2, on=3600, off=i) for i in range(12)]
        calls += [collector(n=i + 1, on=3, off=3, parts=range(12)) for i in range(12)]
        calls += [cause(i, 1) for i in range(12)]
        calls += [tick(600)] * (400 - len(calls))
        answered = answers_of(*calls)
        self.assertEqual(answered[36 + 5], [3600, 0, 0])
        self.assertEqual(answered[36 + 6], [4200, 24, 1])
        self.assertEqual(answered[-1], [364 * 600, 24, 1])

    def test_parted_sees_an_answer_that_is_cut_off(self):
        self.assertRaises(ValueError, parted, [3, 1, 0])


if __name__ == "__main__":
    unittest.main()
