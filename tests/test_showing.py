"""Promise 3, what is held back and covered, the list's order, and what sounds."""

import unittest

from helper import Desk, ack, ack_all, answers_of, cancel, cause, phase, recall, reset, snapshot, tick, warning
from standingwarnings.showing import listed_numbers, shown_numbers


def shown(desk):
    return shown_numbers(desk.panel)


class Phase3(unittest.TestCase):
    def test_ends(self):
        self.assertEqual(answers_of(phase(0), phase(9), phase(-1), phase(10)), [[0], [0], [-1], [-1]])

    def test_a_refused_phase_changes_nothing(self):
        desk = Desk(warning(phases=[3]), phase(3), cause(0, 1), tick(1))
        before = snapshot(desk.panel)
        self.assertEqual(desk.do(phase(10)), [-1])
        self.assertEqual(desk.do(phase(-1)), [-1])
        self.assertEqual(snapshot(desk.panel), before)
        self.assertEqual(desk.panel.phase, 3)

    def test_it_is_0_at_first(self):
        self.assertEqual(answers_of(warning(phases=[0]), cause(0, 1), tick(1))[-1], [1, 0, 0])
        self.assertEqual(answers_of(warning(phases=list(range(1, 10))), cause(0, 1), tick(1))[-1], [1, 1, 0])

    def test_held_back_in_each_of_its_phases(self):
        for p in range(10):
            wanted = 0 if p in (2, 5, 9) else 1
            self.assertEqual(answers_of(warning(phases=[2, 5, 9]), phase(p), cause(0, 1), tick(1))[-1],
                             [1, wanted, 0])

    def test_shown_when_the_phase_ends(self):
        desk = Desk(warning(rank=3, phases=[2]), phase(2), cause(0, 1))
        self.assertEqual(desk.do(tick(4)), [4, 0, 0])
        self.assertEqual(desk.stand(0), [4, 0, 1, 1, 0, 0, 0, 1])
        self.assertEqual(desk.do(phase(3)), [0])
        self.assertEqual(shown(desk), [0])
        self.assertEqual(desk.stand(0), [4, 0, 1, 1, 0, 0, 1, 1])
        self.assertEqual(desk.log(), [(1, 1, 0), (4, 3, 0)])

    def test_shown_before_the_phase_stays_shown(self):
        desk = Desk(warning(phases=[2]), cause(0, 1), tick(1), phase(2))
        self.assertEqual(desk.do(tick(1)), [2, 1, 0])

    def test_shown_for_no_more_than_a_phase_call(self):
        desk = Desk(warning(phases=[2]), phase(2), cause(0, 1), tick(1), phase(3), phase(2))
        self.assertEqual(desk.do(tick(1)), [2, 1, 0])

    def test_held_back_anew_when_it_comes_again(self):
        desk = Desk(warning(phases=[2]), cause(0, 1), tick(1), phase(2), cause(0, 0), tick(1), cause(0, 1))
        self.assertEqual(desk.do(tick(1)), [3, 0, 0])
        self.assertEqual(desk.stand(0)[6:], [0, 2])

    def test_from_one_of_its_phases_to_another(self):
        desk = Desk(warning(phases=[2, 3]), phase(2), cause(0, 1), tick(1), phase(3))
        self.assertEqual(desk.do(tick(1)), [2, 0, 0])


class Covered(unittest.TestCase):
    def two(self, **of_second):
        return Desk(warning(cause=0, rank=2), warning(cause=1, covers=[0], **of_second))

    def test_covered_while_the_cover_is_shown(self):
        desk = self.two()
        desk.do(cause(1, 1))
        self.assertEqual(desk.do(tick(1)), [1, 1, 0])
        desk.do(cause(0, 1))
        self.assertEqual(desk.do(tick(1)), [2, 1, 1])
        self.assertEqual(shown(desk), [0])

    def test_a_cover_that_goes(self):
        desk = self.two()
        for call in (cause(0, 1), cause(1, 1), tick(2), cause(0, 0)):
            desk.do(call)
        self.assertEqual(shown(desk), [0])
        self.assertEqual(desk.stand(1)[6], 0)
        desk.do(tick(1))
        self.assertEqual(shown(desk), [1])
        self.assertEqual(desk.stand(1)[6], 1)

    def test_a_cover_that_is_cancelled_and_called_back(self):
        desk = self.two()
        for call in (cause(0, 1), cause(1, 1), tick(2), ack(0), cancel(0)):
            desk.do(call)
        self.assertEqual(shown(desk), [1])
        desk.do(recall())
        self.assertEqual(shown(desk), [0])

    def test_a_cover_that_is_reset(self):
        desk = Desk(warning(cause=0, latch=1), warning(cause=1, covers=[0]), cause(0, 1), cause(1, 1), tick(1),
                    cause(0, 0), tick(1))
        self.assertEqual(shown(desk), [0])
        desk.do(reset(0))
        self.assertEqual(shown(desk), [1])
        self.assertEqual(desk.stand(1)[6], 1)

    def test_a_cover_that_is_itself_covered(self):
        desk = Desk(warning(cause=0), warning(cause=1, covers=[0]), warning(cause=2, covers=[1]),
                    cause(1, 1), cause(2, 1), tick(1))
        self.assertEqual(shown(desk), [1])
        desk.do(cause(0, 1))
        desk.do(tick(1))
        self.assertEqual(shown(desk), [0, 2])

    def test_a_cover_that_is_held_back(self):
        desk = Desk(warning(phases=[0]), warning(covers=[0]), cause(0, 1), tick(1))
        self.assertEqual(shown(desk), [1])
        desk.do(phase(1))
        self.assertEqual(shown(desk), [0])

    def test_one_of_two_covers_is_enough(self):
        for c in (0, 1):
            desk = Desk(warning(cause=0), warning(cause=1), warning(cause=2, covers=[0, 1]), cause(2, 1), cause(c, 1),
                        tick(1))
            self.assertEqual(shown(desk), [c])

    def test_covered_in_its_phase_it_may_be_held_back_too(self):
        desk = self.two(phases=[4])
        for call in (cause(0, 1), cause(1, 1), tick(1), phase(4), cause(0, 0)):
            desk.do(call)
        self.assertEqual(desk.do(tick(1)), [2, 0, 0])

    def test_shown_then_covered_it_is_not_held_back_later(self):
        desk = self.two(phases=[4])
        for call in (cause(1, 1), tick(1), cause(0, 1), tick(1), phase(4), cause(0, 0)):
            desk.do(call)
        self.assertEqual(desk.do(tick(1)), [3, 1, 0])


class ListOrder(unittest.TestCase):
    def test_rank_then_later_then_number(self):
        desk = Desk(warning(cause=0, rank=1), warning(cause=1, rank=2), warning(cause=2, rank=1),
                    warning(cause=2, rank=1), warning(cause=1, rank=3), warning(cause=0, rank=3),
                    warning(cause=9, rank=3))
        for c in range(3):
            desk.do(cause(c, 1))
            desk.do(tick(1))
        self.assertEqual(listed_numbers(desk.panel), [4, 5, 1, 2, 3, 0])

    def test_only_what_is_shown(self):
        desk = Desk(warning(), warning(covers=[0]), warning(phases=[0]), warning(cause=1), cause(0, 1), tick(1))
        self.assertEqual(listed_numbers(desk.panel), [0])


class Sound(unittest.TestCase):
    def test_by_rank(self):
        for rank, sounds in ((1, 0), (2, 1), (3, 2)):
            self.assertEqual(answers_of(warning(rank=rank), cause(0, 1), tick(1))[-1], [1, 1, sounds])

    def test_what_is_acknowledged_is_silent(self):
        desk = Desk(warning(rank=1), warning(rank=2), warning(rank=3), cause(0, 1))
        self.assertEqual(desk.do(tick(1)), [1, 3, 2])
        desk.do(ack(2))
        self.assertEqual(desk.do(tick(1)), [2, 3, 1])
        desk.do(ack(1))
        self.assertEqual(desk.do(tick(1)), [3, 3, 0])

    def test_one_of_two_that_is_not_acknowledged(self):
        desk = Desk(warning(rank=3), warning(rank=3), cause(0, 1), tick(1), ack(0))
        self.assertEqual(desk.do(tick(1)), [2, 2, 2])
        desk.do(ack_all())
        self.assertEqual(desk.do(tick(1)), [3, 2, 0])

    def test_what_is_not_shown_is_silent(self):
        desk = Desk(warning(rank=1), warning(rank=3, covers=[0]), warning(rank=2, phases=[0]), cause(0, 1))
        self.assertEqual(desk.do(tick(1)), [1, 1, 0])

    def test_it_sounds_anew_when_it_comes_again(self):
        desk = Desk(warning(rank=3), cause(0, 1), tick(1), ack(0), cause(0, 0), tick(1), cause(0, 1))
        self.assertEqual(desk.do(tick(1)), [3, 1, 2])


if __name__ == "__main__":
    unittest.main()
