"""The log: which events, in which order, and how many are kept."""

import unittest

from helper import Desk, ack, ack_all, cancel, cause, collector, phase, recall, reset, tick, warning


class Events(unittest.TestCase):
    def behind(self, desk, call):
        """The events that one call adds."""
        before = desk.panel.events_ever
        desk.do(call)
        added = desk.panel.events_ever - before
        return desk.log()[len(desk.log()) - added:]

    def test_nothing_happened_at_first(self):
        desk = Desk(warning(), tick(5), phase(3), cause(0, 1), ack_all(), recall())
        self.assertEqual((desk.log(), desk.panel.events_ever), ([], 0))

    def test_coming_is_ahead_of_the_first_showing_warning_by_warning(self):
        desk = Desk(warning(), warning(covers=[0]), collector(parts=[1]), cause(0, 1))
        self.assertEqual(self.behind(desk, tick(2)), [(1, 1, 0), (1, 3, 0), (1, 1, 1), (1, 1, 2), (1, 3, 2)])

    def test_going_stands_by_number_with_what_is_uncovered(self):
        desk = Desk(warning(cause=1), warning(cause=0), warning(cause=1, covers=[1]), warning(cause=0),
                    cause(0, 1), cause(1, 1), tick(1), cause(0, 0))
        self.assertEqual(self.behind(desk, tick(1)), [(2, 2, 1), (2, 3, 2), (2, 2, 3)])

    def test_shown_again_is_no_first_showing(self):
        desk = Desk(warning(cause=0), warning(cause=1, covers=[0]), cause(1, 1), tick(1), cause(0, 1), tick(1),
                    cause(0, 0))
        self.assertEqual(self.behind(desk, tick(1)), [(3, 2, 0)])

    def test_shown_for_the_first_time_each_time_it_came(self):
        desk = Desk(warning(), cause(0, 1), tick(1), cause(0, 0), tick(1), cause(0, 1))
        self.assertEqual(self.behind(desk, tick(1)), [(3, 1, 0), (3, 3, 0)])

    def test_a_phase_that_shows(self):
        desk = Desk(warning(phases=[0]), warning(), warning(phases=[0, 1]), warning(phases=[0]), cause(0, 1), tick(2))
        self.assertEqual(self.behind(desk, phase(1)), [(2, 3, 0), (2, 3, 3)])
        self.assertEqual(self.behind(desk, phase(1)), [])
        self.assertEqual(self.behind(desk, phase(2)), [(2, 3, 2)])

    def test_acknowledged(self):
        desk = Desk(warning(), warning(), warning(), cause(0, 1), tick(3))
        self.assertEqual(self.behind(desk, ack(1)), [(3, 4, 1)])
        self.assertEqual(self.behind(desk, ack_all()), [(3, 4, 0), (3, 4, 2)])

    def test_a_cancelling_that_uncovers(self):
        desk = Desk(warning(), warning(covers=[0]), cause(0, 1), tick(1), ack(0))
        self.assertEqual(self.behind(desk, cancel(0)), [(1, 3, 1), (1, 5, 0)])

    def test_a_recall_that_uncovers(self):
        desk = Desk(warning(cause=0), warning(cause=1, covers=[0]), warning(cause=1, covers=[1]), cause(0, 1), tick(1),
                    ack(0), cancel(0), cause(1, 1), tick(1))
        self.assertEqual(self.behind(desk, recall()), [(2, 3, 2), (2, 6, 0)])

    def test_a_reset_that_uncovers(self):
        desk = Desk(warning(), warning(latch=1), warning(cause=1, covers=[0]), warning(cause=1, covers=[1]),
                    cause(0, 1), cause(1, 1), tick(1), cause(0, 0), tick(1))
        self.assertEqual(self.behind(desk, reset(1)), [(2, 2, 1), (2, 3, 3), (2, 7, 1)])

    def test_what_is_refused_is_not_logged(self):
        desk = Desk(warning(rank=3, latch=1), cause(0, 1), tick(1), ack(0))
        for call in (ack(0), cancel(0), reset(0), ack(1), tick(0), phase(10), cause(32, 0)):
            self.assertEqual(self.behind(desk, call), [])


class Kept(unittest.TestCase):
    def test_the_newest_200(self):
        desk = Desk(warning())
        for turn in range(100):
            desk.do(cause(0, 1 - turn % 2))
            desk.do(tick(1))
        # 50 times it came, was shown, and went.
        self.assertEqual((desk.panel.events_ever, len(desk.log())), (150, 150))
        for turn in range(34):
            desk.do(cause(0, 1 - turn % 2))
            desk.do(tick(1))
        self.assertEqual((desk.panel.events_ever, len(desk.log())), (201, 200))
        self.assertEqual(desk.log()[0], (1, 3, 0))
        self.assertEqual(desk.log()[-3:], [(133, 1, 0), (133, 3, 0), (134, 2, 0)])

    def test_just_200(self):
        desk = Desk(*[warning()] * 20, cause(0, 1), tick(1))
        for _ in range(2):
            for call in (ack_all(), [6], cause(0, 0), tick(1), cause(0, 1), tick(1)):
                desk.do(call)
        self.assertEqual(desk.panel.events_ever, 200)
        self.assertEqual((len(desk.log()), desk.log()[0]), (200, (1, 1, 0)))
        desk.do(ack(5))
        self.assertEqual((len(desk.log()), desk.log()[0], desk.log()[-1]), (200, (1, 3, 0), (5, 4, 5)))


if __name__ == "__main__":
    unittest.main()
