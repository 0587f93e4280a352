"""Promises 5 to 9: ack, ack all, cancel, recall, reset."""

import unittest

from helper import Desk, ack, ack_all, cancel, cause, phase, recall, reset, snapshot, tick, warning
from standingwarnings.showing import shown_numbers


class Crew(unittest.TestCase):
    def refused(self, desk, call, refusal):
        before = snapshot(desk.panel)
        self.assertEqual(desk.do(call), [refusal])
        self.assertEqual(snapshot(desk.panel), before)

    def no_such_warning(self, make):
        for desk in (Desk(), Desk(warning(), warning(), cause(0, 1), tick(1))):
            count = len(desk.panel.warnings)
            for i in (-1, count, count + 1, 24):
                self.refused(desk, make(i), -1)


class Ack5(Crew):
    def test_it_is_acknowledged(self):
        desk = Desk(warning(), warning(), cause(0, 1), tick(1))
        self.assertEqual(desk.do(ack(1)), [0])
        self.assertEqual([desk.stand(i)[4] for i in (0, 1)], [0, 1])
        self.assertEqual(desk.do(ack(0)), [0])
        self.assertEqual(desk.stand(0), [1, 0, 1, 1, 1, 0, 1, 1])

    def test_no_such_warning(self):
        self.no_such_warning(ack)

    def test_not_shown(self):
        self.refused(Desk(warning()), ack(0), -6)
        self.refused(Desk(warning(phases=[0]), cause(0, 1), tick(1)), ack(0), -6)
        self.refused(Desk(warning(), warning(covers=[0]), cause(0, 1), tick(1)), ack(1), -6)

    def test_acknowledged_already(self):
        self.refused(Desk(warning(), cause(0, 1), tick(1), ack(0)), ack(0), -7)

    def test_the_first_that_is_due(self):
        self.refused(Desk(warning(), cause(0, 1), tick(1), ack(0), cancel(0)), ack(0), -6)

    def test_it_lasts_till_it_goes(self):
        desk = Desk(warning(), cause(0, 1), tick(1), ack(0), tick(5))
        self.assertEqual(desk.stand(0)[4], 1)
        desk.do(cause(0, 0))
        desk.do(tick(1))
        self.assertEqual(desk.stand(0)[4], 0)
        desk.do(cause(0, 1))
        desk.do(tick(1))
        self.assertEqual(desk.do(ack(0)), [0])


class AckAll6(Crew):
    def test_all_that_is_shown_and_is_not(self):
        desk = Desk(warning(), warning(), warning(covers=[0]), warning(phases=[0]), warning(cause=1), warning(),
                    cause(0, 1), tick(1), ack(1))
        self.assertEqual(desk.do(ack_all()), [2])
        self.assertEqual([desk.stand(i)[4] for i in range(6)], [1, 1, 0, 0, 0, 1])
        self.assertEqual(desk.log()[-3:], [(1, 4, 1), (1, 4, 0), (1, 4, 5)])

    def test_nothing_to_acknowledge(self):
        self.refused(Desk(), ack_all(), 0)
        self.refused(Desk(warning()), ack_all(), 0)
        self.refused(Desk(warning(), cause(0, 1), tick(1), ack_all()), ack_all(), 0)


class Cancel7(Crew):
    def test_it_is_cancelled(self):
        for rank in (1, 2):
            desk = Desk(warning(rank=rank), cause(0, 1), tick(1), ack(0))
            self.assertEqual(desk.do(cancel(0)), [0])
            self.assertEqual(desk.stand(0), [1, 0, 1, 1, 1, 1, 1, 1])
            self.assertEqual(desk.do(tick(1)), [2, 0, 0])

    def test_no_such_warning(self):
        self.no_such_warning(cancel)

    def test_not_shown(self):
        self.refused(Desk(warning()), cancel(0), -6)
        self.refused(Desk(warning(phases=[0]), cause(0, 1), tick(1)), cancel(0), -6)
        self.refused(Desk(warning(cause=1), warning(covers=[0]), cause(0, 1), tick(1), ack(1), cause(1, 1), tick(1)),
                     cancel(1), -6)
        self.refused(Desk(warning(), cause(0, 1), tick(1), ack(0), cancel(0)), cancel(0), -6)

    def test_not_acknowledged(self):
        self.refused(Desk(warning(), cause(0, 1), tick(1)), cancel(0), -7)

    def test_the_highest_rank(self):
        self.refused(Desk(warning(rank=3), cause(0, 1), tick(1), ack(0)), cancel(0), -9)

    def test_the_first_that_is_due(self):
        self.refused(Desk(warning(rank=3)), cancel(0), -6)
        self.refused(Desk(warning(rank=3), cause(0, 1), tick(1)), cancel(0), -7)

    def test_it_lasts_till_it_goes(self):
        desk = Desk(warning(), cause(0, 1), tick(1), ack(0), cancel(0), tick(3))
        self.assertEqual(desk.stand(0)[5], 1)
        desk.do(cause(0, 0))
        desk.do(tick(1))
        self.assertEqual(desk.stand(0), [0, 1, 0, 0, 0, 0, 0, 1])
        desk.do(cause(0, 1))
        self.assertEqual(desk.do(tick(1)), [6, 1, 0])


class Recall8(Crew):
    def test_all_that_is_cancelled(self):
        desk = Desk(warning(), warning(), warning(), cause(0, 1), tick(1), ack_all(), cancel(2), cancel(0))
        self.assertEqual(shown_numbers(desk.panel), [1])
        self.assertEqual(desk.do(recall()), [2])
        self.assertEqual(shown_numbers(desk.panel), [0, 1, 2])
        self.assertEqual(desk.stand(0), [1, 0, 1, 1, 1, 0, 1, 1])
        self.assertEqual(desk.log()[-2:], [(1, 6, 0), (1, 6, 2)])

    def test_nothing_to_call_back(self):
        self.refused(Desk(), recall(), 0)
        self.refused(Desk(warning(), cause(0, 1), tick(1), ack_all()), recall(), 0)
        self.refused(Desk(warning(), cause(0, 1), tick(1), ack_all(), cancel(0), recall()), recall(), 0)

    def test_what_went_is_not_called_back(self):
        desk = Desk(warning(), cause(0, 1), tick(1), ack(0), cancel(0), cause(0, 0), tick(1))
        self.refused(desk, recall(), 0)

    def test_what_was_shown_is_not_held_back_behind_it(self):
        desk = Desk(warning(phases=[3]), cause(0, 1), tick(1), ack(0), cancel(0), phase(3), recall())
        self.assertEqual(shown_numbers(desk.panel), [0])

    def test_what_is_shown_is_looked_at_behind_all_of_it(self):
        # Called back one by one, 1 would uncover 3 for a moment, before 0 covers 1.
        desk = Desk(warning(cause=0), warning(cause=1, covers=[0]), warning(cause=2, covers=[1]),
                    warning(cause=3, covers=[2]), cause(1, 1), tick(1), ack(1), cancel(1), cause(2, 1), cause(3, 1),
                    cause(0, 1), tick(1), ack(0), cancel(0))
        self.assertEqual(shown_numbers(desk.panel), [2])
        self.assertEqual(desk.do(recall()), [2])
        self.assertEqual(shown_numbers(desk.panel), [0, 2])
        self.assertEqual(desk.stand(3)[6], 0)

    def test_nor_one_by_one_from_the_smallest_number_up(self):
        # With 0 back and 1 not yet, 2 would be covered and 3 shown for a moment.
        desk = Desk(warning(cause=0), warning(cause=0), warning(cause=1, covers=[0]), warning(cause=1, covers=[1, 2]),
                    cause(0, 1), tick(1), ack_all(), cancel(0), cancel(1), cause(1, 1), tick(1))
        self.assertEqual(shown_numbers(desk.panel), [2])
        self.assertEqual(desk.do(recall()), [2])
        self.assertEqual(shown_numbers(desk.panel), [0, 1])
        self.assertEqual(desk.stand(3)[6], 0)


class Reset9(Crew):
    def latched(self, *more, off=2):
        return Desk(warning(latch=1, off=off), cause(0, 1), tick(1), *more)

    def test_it_goes(self):
        desk = self.latched(ack(0), cancel(0), cause(0, 0), tick(3))
        self.assertEqual(desk.stand(0), [0, 3, 1, 1, 1, 1, 1, 1])
        self.assertEqual(desk.do(reset(0)), [0])
        self.assertEqual(desk.stand(0), [0, 3, 0, 0, 0, 0, 0, 1])

    def test_no_such_warning(self):
        self.no_such_warning(reset)

    def test_not_come(self):
        self.refused(Desk(warning(latch=1)), reset(0), -6)
        self.refused(self.latched(cause(0, 0), tick(3), reset(0)), reset(0), -6)

    def test_it_does_not_latch(self):
        self.refused(Desk(warning(off=9), cause(0, 1), tick(1)), reset(0), -9)

    def test_just_its_off_delay_and_one_second_more(self):
        self.refused(self.latched(), reset(0), -7)
        desk = self.latched(cause(0, 0), tick(2))
        self.refused(desk, reset(0), -7)
        desk.do(tick(1))
        self.assertEqual(desk.do(reset(0)), [0])

    def test_an_off_delay_of_0(self):
        desk = self.latched(cause(0, 0), off=0)
        self.refused(desk, reset(0), -7)
        desk.do(tick(1))
        self.assertEqual(desk.do(reset(0)), [0])

    def test_its_source_came_back(self):
        self.refused(self.latched(cause(0, 0), tick(9), cause(0, 1), tick(1)), reset(0), -7)

    def test_the_cause_counts_from_the_next_second(self):
        desk = self.latched(cause(0, 0), tick(3), cause(0, 1))
        self.assertEqual(desk.do(reset(0)), [0])

    def test_the_first_that_is_due(self):
        self.refused(Desk(warning()), reset(0), -6)
        self.refused(Desk(warning(latch=1), tick(5)), reset(0), -6)
        self.refused(Desk(warning(), cause(0, 1), tick(1)), reset(0), -9)

    def test_what_is_not_shown_can_be_reset(self):
        desk = Desk(warning(latch=1, phases=[0]), cause(0, 1), tick(1), cause(0, 0), tick(1))
        self.assertEqual(shown_numbers(desk.panel), [])
        self.assertEqual(desk.do(reset(0)), [0])
        self.assertEqual(desk.stand(0)[2], 0)


if __name__ == "__main__":
    unittest.main()
