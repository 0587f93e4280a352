"""The calls that change the panel. Each answers a list of whole numbers."""

from standingwarnings.events import ACKNOWLEDGED, CALLED_BACK, CANCELLED, WAS_RESET, WENT, log_each, log_event
from standingwarnings.refusals import FULL, NO_ROW_OF_WARNINGS, NOT_NOW, NOT_OF_THIS_KIND, NOT_SHOWN_OR_COME
from standingwarnings.refusals import HIGHEST_PHASE, OUT_OF_RANGE, TOO_FEW_PARTS
from standingwarnings.refusals import are_within, is_full, is_row_of_phases, is_row_of_warnings, is_warning
from standingwarnings.refusals import is_within, refusal_of_seconds
from standingwarnings.seconds import pass_seconds
from standingwarnings.showing import mark_shown, shown_numbers, sound, unacknowledged_numbers
from standingwarnings.standing import StandingWarning, go

HIGHEST_RANK = 3

# cause or n; rank, on-delay, off-delay, latch
WARNING_RANGES = ((0, 31), (1, 3), (0, 3600), (0, 3600), (0, 1))
COLLECTOR_RANGES = ((1, 24), (1, 3), (0, 3600), (0, 3600), (0, 1))
CAUSE_RANGES = ((0, 31), (0, 1))


def add_to_panel(panel, warning):
    panel.warnings.append(warning)
    return [len(panel.warnings) - 1]


def add_warning(panel, numbers, phases, covers):
    if not are_within(numbers, WARNING_RANGES) or not is_row_of_phases(phases):
        return [OUT_OF_RANGE]
    if not is_row_of_warnings(panel, covers):
        return [NO_ROW_OF_WARNINGS]
    if is_full(panel):
        return [FULL]
    return add_to_panel(
        panel,
        StandingWarning(numbers[0], 0, numbers[1], numbers[2], numbers[3], numbers[4], [], phases, covers),
    )


def add_collector(panel, numbers, parts, phases, covers):
    if not are_within(numbers, COLLECTOR_RANGES) or not is_row_of_phases(phases):
        return [OUT_OF_RANGE]
    if not is_row_of_warnings(panel, parts) or not is_row_of_warnings(panel, covers):
        return [NO_ROW_OF_WARNINGS]
    if len(parts) < numbers[0]:
        return [TOO_FEW_PARTS]
    if is_full(panel):
        return [FULL]
    return add_to_panel(
        panel,
        StandingWarning(0, numbers[0], numbers[1], numbers[2], numbers[3], numbers[4], parts, phases, covers),
    )


def set_cause(panel, cause, on):
    if not are_within([cause, on], CAUSE_RANGES):
        return [OUT_OF_RANGE]
    panel.causes[cause] = (on == 1)
    return [0]


def set_phase(panel, phase):
    if not is_within(phase, 0, HIGHEST_PHASE):
        return [OUT_OF_RANGE]
    panel.phase = phase
    mark_shown(panel, {})
    return [0]


def tick(panel, seconds):
    refusal = refusal_of_seconds(panel, seconds)
    if refusal != 0:
        return [refusal]
    pass_seconds(panel, seconds)
    return [panel.clock, len(shown_numbers(panel)), sound(panel)]


def ack(panel, number):
    if not is_warning(panel, number):
        return [OUT_OF_RANGE]
    if number not in shown_numbers(panel):
        return [NOT_SHOWN_OR_COME]
    warning = panel.warnings[number]
    if warning.acknowledged:
        return [NOT_NOW]
    warning.acknowledged = True
    log_event(panel, ACKNOWLEDGED, number)
    return [0]


def ack_all(panel):
    waiting = unacknowledged_numbers(panel)
    for number in waiting:
        warning = panel.warnings[number]
        warning.acknowledged = True
    log_each(panel, ACKNOWLEDGED, waiting)
    return [len(waiting)]


def cancel(panel, number):
    if not is_warning(panel, number):
        return [OUT_OF_RANGE]
    if number not in shown_numbers(panel):
        return [NOT_SHOWN_OR_COME]
    warning = panel.warnings[number]
    if not warning.acknowledged:
        return [NOT_NOW]
    if warning.rank == HIGHEST_RANK:
        return [NOT_OF_THIS_KIND]
    warning.cancelled = True
    mark_shown(panel, {})
    log_event(panel, CANCELLED, number)
    return [0]


def recall(panel):
    called_back = [number for number, warning in enumerate(panel.warnings) if warning.cancelled]
    for number in called_back:
        warning = panel.warnings[number]
        warning.cancelled = False
    mark_shown(panel, {})
    log_each(panel, CALLED_BACK, called_back)
    return [len(called_back)]


def reset(panel, number):
    if not is_warning(panel, number):
        return [OUT_OF_RANGE]
    warning = panel.warnings[number]
    if not warning.has_come:
        return [NOT_SHOWN_OR_COME]
    if warning.latch == 0:
        return [NOT_OF_THIS_KIND]
    if warning.seconds_off <= warning.off_delay:
        return [NOT_NOW]
    go(warning)
    mark_shown(panel, {number: WENT})
    log_event(panel, WAS_RESET, number)
    return [0]
