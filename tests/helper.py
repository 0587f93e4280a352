"""What the tests share: calls laid out, drawn lines, a panel to look into, and a slow model of DOC.md."""

import copy
import random

from standingwarnings.panel import answer_line, answers
from standingwarnings.state import Panel

FAR = 1000000000000000000


def laid(row):
    return [len(row)] + list(row)


def warning(cause=0, rank=1, on=0, off=0, latch=0, phases=(), covers=()):
    return [0, cause, rank, on, off, latch] + laid(phases) + laid(covers)


def collector(n=1, rank=1, on=0, off=0, latch=0, parts=(), phases=(), covers=()):
    return [1, n, rank, on, off, latch] + laid(parts) + laid(phases) + laid(covers)


def cause(c, b):
    return [2, c, b]


def phase(p):
    return [3, p]


def tick(k):
    return [4, k]


def ack(i):
    return [5, i]


def ack_all():
    return [6]


def cancel(i):
    return [7, i]


def recall():
    return [8]


def reset(i):
    return [9, i]


def list_all():
    return [10]


def page(n, p):
    return [11, n, p]


def why(i):
    return [12, i]


def sound():
    return [13]


def stand(i):
    return [14, i]


def told(i):
    return [15, i]


def log():
    return [16]


def next_change():
    return [17]


def ahead(k):
    return [18, k]


def state():
    return [19]


def some_row(draw, end, odds):
    return [i for i in range(end) if draw.random() < odds]


def a_delay(draw):
    return draw.choice([0, 0, 0, 1, 2, 3, 5, 9, 40])


def a_warning(draw, count):
    told = dict(rank=draw.randint(1, 3), on=a_delay(draw), off=a_delay(draw), latch=int(draw.random() < 0.3),
                phases=some_row(draw, 10, 0.2), covers=some_row(draw, count, 0.15))
    if count and draw.random() < 0.4:
        parts = some_row(draw, count, 0.6)
        return collector(n=draw.randint(1, max(1, len(parts))), parts=parts, **told)
    return warning(cause=draw.randint(0, 3), **told)


def a_wrong_call(draw, count):
    return draw.choice([
        warning(cause=32), warning(rank=0), warning(phases=[3, 3]), warning(covers=[count]), warning(covers=[-1]),
        collector(n=0, parts=[0]), collector(n=24, parts=[]), collector(n=1, parts=[count]), cause(-1, 1), cause(1, 2),
        phase(10), tick(0), tick(601), ack(count), cancel(-1), reset(count),
    ])


def a_call(draw, count):
    i = draw.randint(0, max(0, count - 1))
    kind = draw.randint(0, 19)
    if kind < 5:
        return cause(draw.randint(0, 3), draw.randint(0, 1))
    if kind < 10:
        return tick(draw.choice([1, 1, 1, 2, 3, 7, 30]))
    if kind == 10:
        return phase(draw.randint(0, 9))
    if kind == 19:
        return a_wrong_call(draw, count)
    if kind == 18:
        return a_warning(draw, count)
    return [ack(i), ack_all(), ack_all(), cancel(i), cancel(i), reset(i), recall()][kind - 11]


def a_line(seed):
    draw = random.Random(seed)
    count = draw.randint(1, 24)
    line = [a_warning(draw, i) for i in range(count)]
    return line + [a_call(draw, count) for _ in range(draw.randint(20, 150))]


def a_telling_call(draw, count):
    """One of the calls 10 to 19, now and then with numbers that are refused."""
    i = draw.randint(-1, count)
    return draw.choice([list_all(), page(draw.randint(0, 9), draw.choice([-1, 0, 0, 1, 2, 23, 24])), why(i), sound(),
                        stand(i), told(i), log(), next_change(), ahead(draw.choice([0, 1, 7, 60, 600, 601])), state()])


def parted(answered):
    """The answers of a line, one list for each call."""
    parts = []
    at = 0
    while at < len(answered):
        end = at + 1 + answered[at]
        if end > len(answered):
            raise ValueError("an answer is cut off")
        parts.append(answered[at + 1:end])
        at = end
    return parts


def answers_of(*calls):
    return parted(answers([number for call in calls for number in call]))


def stand_of(one):
    """How a warning stands, as the eight numbers that DOC.md lists."""
    return [one.seconds_on, one.seconds_off, int(one.has_come), one.came_at, int(one.acknowledged),
            int(one.cancelled), int(one.shown_since), one.times_come]


def snapshot(panel):
    """All that a panel holds, to see whether something changed."""
    told = [(w.cause, w.needed, w.rank, w.on_delay, w.off_delay, w.latch, list(w.parts), list(w.phases),
             list(w.covers), stand_of(w)) for w in panel.warnings]
    return (panel.clock, panel.phase, list(panel.causes), told, list(panel.log), panel.events_ever)


class Desk:
    """A panel that takes call by call and lets itself be looked into."""

    def __init__(self, *calls):
        self.panel = Panel()
        for call in calls:
            if self.do(call)[0] < 0:
                raise ValueError(f"refused: {call}")

    def do(self, call):
        parts = parted(answer_line(self.panel, list(call)))
        if len(parts) != 1:
            raise ValueError("one call, one answer")
        return parts[0]

    def stand(self, i):
        return stand_of(self.panel.warnings[i])

    def log(self):
        return list(self.panel.log)


class Model:
    """DOC.md, word by word and second by second, with no thought for speed."""

    def __init__(self):
        self.clock = 0
        self.phase = 0
        self.on = []
        self.all = []
        self.events = []

    def shown(self):
        seen = {}
        for i, w in enumerate(self.all):
            held = self.phase in w["phases"] and not w["since"]
            covered = [c for c in w["covers"] if seen[c]]
            seen[i] = w["come"] and not w["cancelled"] and not held and not covered
        return [i for i in seen if seen[i]]

    def settle(self, first, own):
        new = []
        for i in self.shown():
            if not self.all[i]["since"]:
                self.all[i]["since"] = 1
                new.append((3, i))
        ahead = sorted(first + new, key=lambda e: (e[1], e[0]))
        self.events += [(self.clock, kind, i) for kind, i in ahead + own]

    def second(self):
        self.clock += 1
        first = []
        for i, w in enumerate(self.all):
            if w["n"]:
                source = len([p for p in w["parts"] if self.all[p]["come"]]) >= w["n"]
            else:
                source = w["cause"] in self.on
            w["son"], w["soff"] = (w["son"] + 1, 0) if source else (0, w["soff"] + 1)
            if not w["come"] and w["son"] > w["on"]:
                w.update(come=1, at=self.clock, acked=0, cancelled=0, since=0, times=w["times"] + 1)
                first.append((1, i))
            if w["come"] and not w["latch"] and w["soff"] > w["off"]:
                w.update(come=0, at=0, acked=0, cancelled=0, since=0)
                first.append((2, i))
        self.settle(first, [])

    def sounds(self):
        loud = [self.all[i]["rank"] for i in self.shown() if not self.all[i]["acked"]]
        return 2 if 3 in loud else 1 if 2 in loud else 0

    def stand(self, i):
        w = self.all[i]
        return [w[name] for name in ("son", "soff", "come", "at", "acked", "cancelled", "since", "times")]

    def listed(self):
        shown = sorted(self.shown())
        shown = sorted(shown, key=lambda i: self.all[i]["at"], reverse=True)
        return sorted(shown, key=lambda i: self.all[i]["rank"], reverse=True)

    def add(self, numbers, parts, phases, covers, plain):
        first, rank, on, off, latch = numbers
        lowest, highest = (0, 31) if plain else (1, 24)
        good = lowest <= first <= highest and 1 <= rank <= 3 and 0 <= on <= 3600 and 0 <= off <= 3600
        if not good or latch not in (0, 1) or not self.rises(phases, 10):
            return [-1]
        if not self.rises(parts, len(self.all)) or not self.rises(covers, len(self.all)):
            return [-4]
        if not plain and len(parts) < first:
            return [-5]
        if len(self.all) == 24:
            return [-8]
        self.all.append(dict(cause=first if plain else 0, n=0 if plain else first, rank=rank, on=on, off=off,
                             latch=latch, parts=parts, phases=phases, covers=covers, son=0, soff=0, come=0,
                             at=0, acked=0, cancelled=0, since=0, times=0))
        return [len(self.all) - 1]

    def rises(self, row, end):
        return row == sorted(set(row)) and not [x for x in row if x < 0 or x >= end]

    def do(self, call):
        place = call[0]
        if place < 2:
            rows = []
            at = 6
            while at < len(call):
                rows.append(call[at + 1:at + 1 + call[at]])
                at += 1 + call[at]
            if place == 0:
                return self.add(call[1:6], [], rows[0], rows[1], True)
            return self.add(call[1:6], rows[0], rows[1], rows[2], False)
        if place >= 10:
            return self.tell(place, call[1:])
        if place in (6, 8):
            return self.do_all(place)
        if place in (5, 7, 9):
            return self.do_one(place, call[1])
        return self.do_number(place, call[1:])

    def do_number(self, place, numbers):
        low, high = {2: (0, 31), 3: (0, 9), 4: (1, 600)}[place]
        if not low <= numbers[0] <= high or (place == 2 and numbers[1] not in (0, 1)):
            return [-1]
        if place == 2:
            self.on = [c for c in self.on if c != numbers[0]] + [numbers[0]] * numbers[1]
            return [0]
        if place == 3:
            self.phase = numbers[0]
            self.settle([], [])
            return [0]
        if self.clock + numbers[0] > 1000000000:
            return [-8]
        for _ in range(numbers[0]):
            self.second()
        return [self.clock, len(self.shown()), self.sounds()]

    def do_all(self, place):
        if place == 6:
            picked = [i for i in self.shown() if not self.all[i]["acked"]]
            for i in picked:
                self.all[i]["acked"] = 1
        else:
            picked = [i for i, w in enumerate(self.all) if w["cancelled"]]
            for i in picked:
                self.all[i]["cancelled"] = 0
        self.settle([], [(4 if place == 6 else 6, i) for i in picked])
        return [len(picked)]

    def do_one(self, place, i):
        if not 0 <= i < len(self.all):
            return [-1]
        w = self.all[i]
        if not (w["come"] if place == 9 else i in self.shown()):
            return [-6]
        if place == 5:
            due = [-7] if w["acked"] else []
        elif place == 7:
            due = ([] if w["acked"] else [-7]) + ([-9] if w["rank"] == 3 else [])
        else:
            due = ([] if w["latch"] else [-9]) + ([] if w["soff"] > w["off"] else [-7])
        if due:
            return due[:1]
        if place == 5:
            w["acked"] = 1
        elif place == 7:
            w["cancelled"] = 1
        else:
            w.update(come=0, at=0, acked=0, cancelled=0, since=0)
        self.settle([(2, i)] if place == 9 else [], [({5: 4, 7: 5, 9: 7}[place], i)])
        return [0]

    def tell(self, place, numbers):
        one = [(0, len(self.all) - 1)]
        ends = {11: [(1, 8), (0, 23)], 12: one, 14: one, 15: one, 18: [(1, 600)]}.get(place, [])
        if len(numbers) != len(ends):
            raise ValueError("not laid as told")
        if [x for x, (low, high) in zip(numbers, ends) if not low <= x <= high]:
            return [-1]
        if place == 18 and self.clock + numbers[0] > 1000000000:
            return [-8]
        tellers = (self.tell_list, self.tell_page, self.tell_why, self.tell_sound, self.stand, self.tell_told,
                   self.tell_log, self.tell_next, self.tell_ahead, self.tell_state)
        return tellers[place - 10](*numbers)

    def tell_list(self):
        lines = [[i, self.all[i]["rank"], self.all[i]["at"], self.all[i]["acked"]] for i in self.listed()]
        return [len(lines)] + [number for line in lines for number in line]

    def tell_page(self, n, p):
        left = self.listed()
        pages = []
        while left:
            pages.append(left[:n])
            left = left[n:]
        return [len(pages)] + laid(pages[p] if p < len(pages) else [])

    def tell_why(self, i):
        w = self.all[i]
        if not w["come"]:
            return [0]
        if i in self.shown():
            return [1]
        if w["cancelled"]:
            return [2]
        if self.phase in w["phases"] and not w["since"]:
            return [3]
        return [4, [c for c in range(24) if c in w["covers"] and c in self.shown()][0]]

    def tell_sound(self):
        return [self.sounds()]

    def tell_told(self, i):
        w = self.all[i]
        return ([w[name] for name in ("cause", "n", "rank", "on", "off", "latch")]
                + laid(w["parts"]) + laid(w["phases"]) + laid(w["covers"]))

    def tell_log(self):
        kept = self.events[-200:]
        return [len(self.events), len(kept)] + [number for event in kept for number in event]

    def tell_next(self):
        """Stops early where all is steady: a warning is, its longest delay behind when its parts are."""
        twin = copy.deepcopy(self)
        steady = sum(max(w["on"], w["off"]) + 1 for w in self.all)
        for k in range(1, min(3600, steady) + 1):
            twin.second()
            if twin.listed() != self.listed():
                return [k]
        return [0]

    def tell_ahead(self, k):
        twin = copy.deepcopy(self)
        for _ in range(k):
            twin.second()
        return twin.tell_list()

    def tell_state(self):
        return [self.clock, self.phase] + laid(sorted(self.on)) + [len(self.all)]
