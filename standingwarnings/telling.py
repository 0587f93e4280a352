"""The calls that tell of the panel and change nothing. Each answers a list of whole numbers."""

from standingwarnings.foresight import panel_ahead, seconds_till_list_changes
from standingwarnings.refusals import OUT_OF_RANGE, are_within, is_warning, refusal_of_seconds
from standingwarnings.showing import is_held_back, listed_numbers, shown_numbers, sound

# how many on a page, which page
PAGE_RANGES = ((1, 8), (0, 23))

FARTHEST_NEXT = 3600

NOT_COME = 0
SHOWN = 1
IS_CANCELLED = 2
HELD_BACK = 3
COVERED = 4


def row_behind_length(row):
    return [len(row)] + row


def tell_list(panel):
    listed = listed_numbers(panel)
    answer = [len(listed)]
    for number in listed:
        warning = panel.warnings[number]
        answer.extend([number, warning.rank, warning.came_at, int(warning.acknowledged)])
    return answer


def tell_page(panel, on_each, page):
    if not are_within([on_each, page], PAGE_RANGES):
        return [OUT_OF_RANGE]
    listed = listed_numbers(panel)
    # Rounded up, as the last page may be only partly full.
    pages = (len(listed) + on_each - 1) // on_each
    return [pages] + row_behind_length(listed[page * on_each:(page + 1) * on_each])


def tell_why(panel, number):
    if not is_warning(panel, number):
        return [OUT_OF_RANGE]
    warning = panel.warnings[number]
    shown = shown_numbers(panel)
    if not warning.has_come:
        return [NOT_COME]
    if number in shown:
        return [SHOWN]
    if warning.cancelled:
        return [IS_CANCELLED]
    if is_held_back(panel, warning):
        return [HELD_BACK]
    return [COVERED, min([cover for cover in warning.covers if cover in shown])]


def tell_sound(panel):
    return [sound(panel)]


def tell_stand(panel, number):
    if not is_warning(panel, number):
        return [OUT_OF_RANGE]
    warning = panel.warnings[number]
    return [
        warning.seconds_on,
        warning.seconds_off,
        int(warning.has_come),
        warning.came_at,
        int(warning.acknowledged),
        int(warning.cancelled),
        int(warning.shown_since),
        warning.times_come,
    ]


def tell_told(panel, number):
    if not is_warning(panel, number):
        return [OUT_OF_RANGE]
    warning = panel.warnings[number]
    answer = [
        warning.cause,
        warning.needed,
        warning.rank,
        warning.on_delay,
        warning.off_delay,
        warning.latch,
    ]
    for row in (warning.parts, warning.phases, warning.covers):
        answer.extend(row_behind_length(row))
    return answer


def tell_log(panel):
    answer = [panel.events_ever, len(panel.log)]
    for event in panel.log:
        answer.extend(event)
    return answer


def tell_next(panel):
    return [seconds_till_list_changes(panel, FARTHEST_NEXT)]


def tell_ahead(panel, seconds):
    refusal = refusal_of_seconds(panel, seconds)
    if refusal != 0:
        return [refusal]
    return tell_list(panel_ahead(panel, seconds))


def tell_state(panel):
    causes_on = [cause for cause, on in enumerate(panel.causes) if on]
    return [panel.clock, panel.phase] + row_behind_length(causes_on) + [len(panel.warnings)]
