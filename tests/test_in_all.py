"""The three sentences under "In all", and many drawn lines against the slow model of helper.py."""

import random
import unittest

from helper import (Desk, Model, ack, ack_all, cancel, cause, collector, parted, phase, recall, reset, tick,
                    warning)
from standingwarnings.panel import answers
from standingwarnings.showing import is_held_back, listed_numbers, shown_numbers


def some_row(draw, end, odds):
    return [i for i in range(end) if draw.random() < odds]


def a_delay(draw):
    return draw.choice([0, 0, 0, 1, 2, 3, 5, 9, 40])


def a_warning(draw, count):
    told = dict(rank=draw.randint(1, 3), on=a_delay(draw), off=a_delay(draw), latch=int(draw.random() < 0.3),
                phases=some_row(draw, 10, 0.2), covers=some_row(draw, count, 0.15))
    if count and draw.random() < 0.4:
        parts = some_row(draw, count, 0.6)
        return collector(n=draw.randint(1, max(1, len(parts))), parts=parts, **told)
    return warning(cause=draw.randint(0, 3), **told)


def a_wrong_call(draw, count):
    return draw.choice([
        warning(cause=32), warning(rank=0), warning(phases=[3, 3]), warning(covers=[count]), warning(covers=[-1]),
        collector(n=0, parts=[0]), collector(n=24, parts=[]), collector(n=1, parts=[count]), cause(-1, 1), cause(1, 2),
        phase(10), tick(0), tick(601), ack(count), cancel(-1), reset(count),
    ])


def a_call(draw, count):
    i = draw.randint(0, max(0, count - 1))
    kind = draw.randint(0, 19)
    if kind < 5:
        return cause(draw.randint(0, 3), draw.randint(0, 1))
    if kind < 10:
        return tick(draw.choice([1, 1, 1, 2, 3, 7, 30]))
    if kind == 10:
        return phase(draw.randint(0, 9))
    if kind == 19:
        return a_wrong_call(draw, count)
    if kind == 18:
        return a_warning(draw, count)
    return [ack(i), ack_all(), ack_all(), cancel(i), cancel(i), reset(i), recall()][kind - 11]


def a_line(seed):
    draw = random.Random(seed)
    count = draw.randint(1, 24)
    line = [a_warning(draw, i) for i in range(count)]
    return line + [a_call(draw, count) for _ in range(draw.randint(20, 150))]


class AgainstTheModel(unittest.TestCase):
    def test_answers_standing_list_and_log(self):
        for seed in range(400):
            desk = Desk()
            model = Model()
            for at, call in enumerate(a_line(seed)):
                where = (seed, at, call)
                self.assertEqual(desk.do(call), model.do(list(call)), where)
                self.assertEqual(shown_numbers(desk.panel), model.shown(), where)
                self.assertEqual(listed_numbers(desk.panel), model.listed(), where)
                self.assertEqual([desk.stand(i) for i in range(len(desk.panel.warnings))],
                                 [model.stand(i) for i in range(len(model.all))], where)
                self.assertEqual(desk.panel.events_ever, len(model.events), where)
                self.assertEqual(desk.log(), model.events[-200:], where)

    def test_whole_lines(self):
        for seed in range(400, 500):
            line = a_line(seed)
            model = Model()
            wanted = [model.do(list(call)) for call in line]
            self.assertEqual(parted(answers([number for call in line for number in call])), wanted, seed)


class InAll(unittest.TestCase):
    def told_reason(self, panel, shown, i):
        one = panel.warnings[i]
        return i in shown or one.cancelled or is_held_back(panel, one) or [c for c in one.covers if c in shown]

    def test_what_has_come_is_shown_or_has_a_told_reason(self):
        for seed in range(100):
            desk = Desk()
            for call in a_line(seed):
                desk.do(call)
                shown = shown_numbers(desk.panel)
                for i, one in enumerate(desk.panel.warnings):
                    if one.has_come:
                        self.assertTrue(self.told_reason(desk.panel, shown, i), (seed, call))
                    else:
                        self.assertNotIn(i, shown, (seed, call))

    def test_a_plain_one_has_come_just_if_its_cause_held(self):
        for seed in range(40):
            draw = random.Random(seed)
            on, off = draw.randint(0, 4), draw.randint(0, 4)
            desk = Desk(warning(on=on, off=off))
            held = []
            for _ in range(120):
                bit = int(draw.random() < 0.5)
                run = draw.randint(1, 6)
                desk.do(cause(0, bit))
                desk.do(tick(run))
                held += [bit] * run
                self.assertEqual(desk.panel.warnings[0].has_come, self.should_have_come(held, on, off))

    def should_have_come(self, held, on, off):
        """Looks back: a run of more than `on` seconds on, and no longer run off than `off` behind it."""
        text = "".join(str(bit) for bit in held)
        came = text.rfind("1" * (on + 1))
        return came >= 0 and "0" * (off + 1) not in text[came:]

    def test_what_is_shown_leaves_only_if_it_goes_is_cancelled_or_gets_covered(self):
        for seed in range(100):
            desk = Desk()
            before = []
            for call in a_line(seed):
                calls = [tick(1)] * call[1] if call[0] == 4 and 0 < call[1] <= 600 else [call]
                for one_call in calls:
                    desk.do(one_call)
                    shown = shown_numbers(desk.panel)
                    for i in [i for i in before if i not in shown]:
                        one = desk.panel.warnings[i]
                        covered = [c for c in one.covers if c in shown]
                        self.assertTrue(not one.has_come or one.cancelled or covered, (seed, call))
                    before = shown


if __name__ == "__main__":
    unittest.main()
