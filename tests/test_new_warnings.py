"""Promises 0 and 1: warning and collector."""

import unittest

from helper import Desk, answers_of, cause, collector, snapshot, tick, warning

ENDS = (("rank", 1, 3), ("on", 0, 3600), ("off", 0, 3600), ("latch", 0, 1))


class Refusing(unittest.TestCase):
    def refused(self, desk, call, refusal):
        before = snapshot(desk.panel)
        self.assertEqual(desk.do(call), [refusal])
        self.assertEqual(snapshot(desk.panel), before)


class Warning0(Refusing):
    def test_numbers_go_up_from_0(self):
        self.assertEqual(answers_of(warning(), warning(), warning()), [[0], [1], [2]])

    def test_a_new_one_stands_at_zero(self):
        desk = Desk(cause(4, 1), tick(9), warning(cause=4, rank=3, on=2, off=5, latch=1, phases=[0, 3]),
                    warning(covers=[0]))
        self.assertEqual(desk.stand(0), [0] * 8)
        self.assertEqual(desk.log(), [])
        one = desk.panel.warnings[0]
        self.assertEqual([one.cause, one.needed, one.rank, one.on_delay, one.off_delay, one.latch],
                         [4, 0, 3, 2, 5, 1])
        self.assertEqual([one.parts, one.phases, one.covers], [[], [0, 3], []])
        self.assertEqual(desk.panel.warnings[1].covers, [0])

    def test_each_end_of_each_range_and_one_beyond(self):
        for name, low, high in ENDS + (("cause", 0, 31),):
            with self.subTest(name):
                self.refused(Desk(), warning(**{name: low - 1}), -1)
                self.refused(Desk(), warning(**{name: high + 1}), -1)
                self.assertEqual(answers_of(warning(**{name: low}), warning(**{name: high})), [[0], [1]])

    def test_rows_of_phases(self):
        for good in ([], [0], [9], [0, 9], list(range(10))):
            self.assertEqual(answers_of(warning(phases=good)), [[0]])
        for bad in ([-1], [10], [-1, 3], [3, 10], [3, 3], [4, 3], [0, 1, 1], [0, 2, 1]):
            with self.subTest(bad):
                self.refused(Desk(), warning(phases=bad), -1)

    def test_rows_of_those_that_cover_it(self):
        three = [warning(), warning(), warning()]
        for good in ([], [0], [2], [0, 2], [0, 1, 2]):
            self.assertEqual(Desk(*three).do(warning(covers=good)), [3])
        for bad in ([-1], [3], [0, 3], [-1, 0], [1, 1], [2, 1], [0, 2, 2], list(range(32))):
            with self.subTest(bad):
                self.refused(Desk(*three), warning(covers=bad), -4)

    def test_no_warning_covers_itself(self):
        self.refused(Desk(), warning(covers=[0]), -4)

    def test_24_and_the_25th(self):
        self.assertEqual(answers_of(*[warning()] * 25), [[i] for i in range(24)] + [[-8]])
        full = [warning()] * 24
        self.refused(Desk(*full), warning(), -8)

    def test_the_first_that_is_due(self):
        full = Desk(*[warning()] * 24)
        self.refused(full, warning(rank=0, covers=[24]), -1)
        self.refused(full, warning(phases=[2, 1], covers=[24]), -1)
        self.refused(full, warning(covers=[24]), -4)
        self.refused(full, warning(latch=2), -1)
        self.refused(full, warning(covers=[0]), -8)


class Collector1(Refusing):
    def test_numbers_are_shared_with_plain_ones(self):
        self.assertEqual(answers_of(warning(), collector(parts=[0]), warning(), collector(parts=[1])),
                         [[0], [1], [2], [3]])

    def test_a_new_one_stands_at_zero(self):
        desk = Desk(warning(), cause(0, 1), tick(5),
                    collector(n=1, rank=2, on=3, off=4, latch=1, parts=[0], phases=[7], covers=[0]))
        self.assertEqual(desk.stand(1), [0] * 8)
        one = desk.panel.warnings[1]
        self.assertEqual([one.cause, one.needed, one.rank, one.on_delay, one.off_delay, one.latch],
                         [0, 1, 2, 3, 4, 1])
        self.assertEqual([one.parts, one.phases, one.covers], [[0], [7], [0]])

    def test_each_end_of_each_range_and_one_beyond(self):
        for name, low, high in ENDS:
            with self.subTest(name):
                self.refused(Desk(warning()), collector(parts=[0], **{name: low - 1}), -1)
                self.refused(Desk(warning()), collector(parts=[0], **{name: high + 1}), -1)
                for good in (low, high):
                    self.assertEqual(Desk(warning()).do(collector(parts=[0], **{name: good})), [1])

    def test_ends_of_n(self):
        self.refused(Desk(warning()), collector(n=0, parts=[0]), -1)
        self.refused(Desk(warning()), collector(n=25, parts=[0]), -1)
        self.refused(Desk(warning()), collector(n=24, parts=[0]), -5)
        self.assertEqual(Desk(*[warning()] * 23).do(collector(n=23, parts=range(23))), [23])

    def test_rows_of_phases(self):
        for bad in ([-1], [10], [3, 3], [4, 3]):
            self.refused(Desk(warning()), collector(parts=[0], phases=bad), -1)
        self.assertEqual(Desk(warning()).do(collector(parts=[0], phases=range(10))), [1])

    def test_rows_of_warnings(self):
        two = [warning(), warning()]
        for bad in ([-1], [2], [0, 2], [1, 1], [1, 0]):
            with self.subTest(bad):
                self.refused(Desk(*two), collector(parts=bad), -4)
                self.refused(Desk(*two), collector(parts=[0], covers=bad), -4)
        self.assertEqual(Desk(*two).do(collector(parts=[0, 1], covers=[0, 1])), [2])

    def test_just_n_parts_and_one_fewer(self):
        two = [warning(), warning(), warning()]
        self.refused(Desk(), collector(n=1, parts=[]), -5)
        self.refused(Desk(*two), collector(n=3, parts=[0, 2]), -5)
        self.assertEqual(Desk(*two).do(collector(n=2, parts=[0, 2])), [3])

    def test_24_and_the_25th(self):
        self.assertEqual(Desk(*[warning()] * 23).do(collector(parts=[0])), [23])
        self.refused(Desk(*[warning()] * 24), collector(parts=[0]), -8)

    def test_the_first_that_is_due(self):
        full = Desk(*[warning()] * 24)
        self.refused(full, collector(n=0, parts=[24]), -1)
        self.refused(full, collector(n=3, parts=[0], phases=[10], covers=[24]), -1)
        self.refused(full, collector(n=3, parts=[24]), -4)
        self.refused(full, collector(n=3, parts=[0], covers=[24]), -4)
        self.refused(full, collector(n=2, parts=[0]), -5)
        self.refused(full, collector(n=1, parts=[0]), -8)


if __name__ == "__main__":
    unittest.main()
