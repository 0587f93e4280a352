"""The three sentences under "In all", and many drawn lines against the slow model of helper.py."""

import random
import unittest

from helper import (Desk, Model, a_line, a_telling_call, answers_of, cause, list_all, stand, state, tick, told, warning,
                    why)
from standingwarnings.showing import listed_numbers, shown_numbers


class AgainstTheModel(unittest.TestCase):
    def test_answers_standing_list_and_log(self):
        for seed in range(400):
            desk = Desk()
            model = Model()
            for at, call in enumerate(a_line(seed)):
                where = (seed, at, call)
                self.assertEqual(desk.do(call), model.do(list(call)), where)
                self.assertEqual(shown_numbers(desk.panel), model.shown(), where)
                self.assertEqual(listed_numbers(desk.panel), model.listed(), where)
                self.assertEqual([desk.stand(i) for i in range(len(desk.panel.warnings))],
                                 [model.stand(i) for i in range(len(model.all))], where)
                self.assertEqual(desk.panel.events_ever, len(model.events), where)
                self.assertEqual(desk.log(), model.events[-200:], where)

    def test_whole_lines(self):
        for seed in range(400, 500):
            line = a_line(seed)
            model = Model()
            wanted = [model.do(list(call)) for call in line]
            self.assertEqual(answers_of(*line), wanted, seed)

    def test_all_twenty_calls(self):
        for seed in range(500, 620):
            draw = random.Random(seed)
            model = Model()
            line = []
            wanted = []
            for call in a_line(seed):
                telling = [a_telling_call(draw, len(model.all))] if draw.random() < 0.5 else []
                for one_call in [call] + telling:
                    line.append(one_call)
                    wanted.append(model.do(list(one_call)))
            self.assertEqual(answers_of(*line), wanted, seed)


class InAll(unittest.TestCase):
    """As the calls from 10 on tell it."""

    def listed(self, desk):
        return desk.do(list_all())[1::4]

    def told_rows(self, desk, i):
        """The phases and the covers of a warning."""
        answer = desk.do(told(i))
        phases_at = 7 + answer[6]
        covers_at = phases_at + 1 + answer[phases_at]
        return answer[phases_at + 1:covers_at], answer[covers_at + 1:]

    def reason_holds(self, desk, listed, i):
        """Whether what why answers of a warning is so, by what the other calls tell."""
        reason = desk.do(why(i))
        stands = desk.do(stand(i))
        phases, covers = self.told_rows(desk, i)
        if (reason == [0]) != (stands[2] == 0) or (reason == [1]) != (i in listed):
            return False
        if reason == [2]:
            return stands[5] == 1
        if reason == [3]:
            return stands[6] == 0 and desk.do(state())[1] in phases
        return len(reason) == 1 or (reason[0] == 4 and reason[1] in covers and reason[1] in listed)

    def test_what_has_come_is_shown_or_has_a_told_reason(self):
        for seed in range(100):
            desk = Desk()
            for call in a_line(seed):
                desk.do(call)
                listed = self.listed(desk)
                for i in range(len(desk.panel.warnings)):
                    self.assertTrue(self.reason_holds(desk, listed, i), (seed, call, i))

    def test_a_plain_one_has_come_just_if_its_cause_held(self):
        for seed in range(40):
            draw = random.Random(seed)
            on, off = draw.randint(0, 4), draw.randint(0, 4)
            desk = Desk(warning(on=on, off=off))
            held = []
            for _ in range(120):
                bit = int(draw.random() < 0.5)
                run = draw.randint(1, 6)
                desk.do(cause(0, bit))
                desk.do(tick(run))
                held += [bit] * run
                self.assertEqual(desk.do(stand(0))[2], int(self.should_have_come(held, on, off)))

    def should_have_come(self, held, on, off):
        """Looks back: a run of more than `on` seconds on, and no longer run off than `off` behind it."""
        text = "".join(str(bit) for bit in held)
        came = text.rfind("1" * (on + 1))
        return came >= 0 and "0" * (off + 1) not in text[came:]

    def test_what_is_shown_leaves_only_if_it_goes_is_cancelled_or_gets_covered(self):
        for seed in range(100):
            desk = Desk()
            before = []
            for call in a_line(seed):
                calls = [tick(1)] * call[1] if call[0] == 4 and 0 < call[1] <= 600 else [call]
                for one_call in calls:
                    desk.do(one_call)
                    listed = self.listed(desk)
                    for i in [i for i in before if i not in listed]:
                        self.assertIn(desk.do(why(i))[0], (0, 2, 4), (seed, call))
                        self.assertTrue(self.reason_holds(desk, listed, i), (seed, call))
                    before = listed


if __name__ == "__main__":
    unittest.main()
