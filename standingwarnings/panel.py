"""A line of calls on a new panel, and its answers."""

from standingwarnings.calls import ack, ack_all, add_collector, add_warning, cancel
from standingwarnings.calls import recall, reset, set_cause, set_phase, tick
from standingwarnings.state import Panel
from standingwarnings.telling import tell_ahead, tell_list, tell_log, tell_next, tell_page
from standingwarnings.telling import tell_sound, tell_stand, tell_state, tell_told, tell_why

FIRST_TELLING_PLACE = 10

# Of each call, by its place: how many numbers and how many rows are laid behind it.
SHAPES = (
    (5, 2), (5, 3), (2, 0), (1, 0), (1, 0), (1, 0), (0, 0), (1, 0), (0, 0), (1, 0),
    (0, 0), (2, 0), (1, 0), (0, 0), (1, 0), (1, 0), (0, 0), (0, 0), (1, 0), (0, 0),
)


def answer_changing_call(panel, place, numbers, rows):
    if place == 0:
        return add_warning(panel, numbers, rows[0], rows[1])
    if place == 1:
        return add_collector(panel, numbers, rows[0], rows[1], rows[2])
    if place == 2:
        return set_cause(panel, numbers[0], numbers[1])
    if place == 3:
        return set_phase(panel, numbers[0])
    if place == 4:
        return tick(panel, numbers[0])
    if place == 5:
        return ack(panel, numbers[0])
    if place == 6:
        return ack_all(panel)
    if place == 7:
        return cancel(panel, numbers[0])
    if place == 8:
        return recall(panel)
    return reset(panel, numbers[0])


def answer_telling_call(panel, place, numbers):
    if place == 10:
        return tell_list(panel)
    if place == 11:
        return tell_page(panel, numbers[0], numbers[1])
    if place == 12:
        return tell_why(panel, numbers[0])
    if place == 13:
        return tell_sound(panel)
    if place == 14:
        return tell_stand(panel, numbers[0])
    if place == 15:
        return tell_told(panel, numbers[0])
    if place == 16:
        return tell_log(panel)
    if place == 17:
        return tell_next(panel)
    if place == 18:
        return tell_ahead(panel, numbers[0])
    return tell_state(panel)


def answer_call(panel, place, numbers, rows):
    if place < FIRST_TELLING_PLACE:
        return answer_changing_call(panel, place, numbers, rows)
    return answer_telling_call(panel, place, numbers)


# Slices are copies, so what the panel keeps of them is not what was handed in.
def read_rows(calls, start, how_many):
    rows = []
    at = start
    for turn in range(how_many):
        length = calls[at]
        rows.append(calls[at + 1:at + 1 + length])
        at += 1 + length
    return rows


def answer_line(panel, calls):
    answered = []
    at = 0
    while at < len(calls):
        place = calls[at]
        rows_at = at + 1 + SHAPES[place][0]
        rows = read_rows(calls, rows_at, SHAPES[place][1])
        answer = answer_call(panel, place, calls[at + 1:rows_at], rows)
        answered.append(len(answer))
        answered.extend(answer)
        at = rows_at + sum([1 + len(row) for row in rows])
    return answered


def answers(calls):
    return answer_line(Panel(), calls)
