"""How the seconds pass."""

from standingwarnings.events import CAME, WENT
from standingwarnings.showing import mark_shown
from standingwarnings.standing import come, go


def source_is_on(panel, warning):
    if warning.needed == 0:
        return panel.causes[warning.cause]
    come_parts = [number for number in warning.parts if panel.warnings[number].has_come]
    return len(come_parts) >= warning.needed


def count_seconds(panel, warning, seconds):
    if source_is_on(panel, warning):
        warning.seconds_on += seconds
        warning.seconds_off = 0
    else:
        warning.seconds_on = 0
        warning.seconds_off += seconds


def is_due_to_come(warning):
    return not warning.has_come and warning.seconds_on > warning.on_delay


def is_due_to_go(warning):
    return warning.has_come and warning.latch == 0 and warning.seconds_off > warning.off_delay


def pass_second(panel):
    panel.clock += 1
    came_or_went = {}
    for number, warning in enumerate(panel.warnings):
        count_seconds(panel, warning, 1)
        if is_due_to_come(warning):
            come(warning, panel.clock)
            came_or_went[number] = CAME
        elif is_due_to_go(warning):
            go(warning)
            came_or_went[number] = WENT
    mark_shown(panel, came_or_went)


# For how many seconds, at most so many, this warning neither comes nor goes
# while its source stays as it is.
def quiet_seconds_of(panel, warning, most):
    source_on = source_is_on(panel, warning)
    if source_on and not warning.has_come:
        return min(most, warning.on_delay - warning.seconds_on)
    if not source_on and warning.has_come and warning.latch == 0:
        return min(most, warning.off_delay - warning.seconds_off)
    return most


# As long as no warning comes or goes, no collector's source changes,
# and what is shown is marked so already: only the counts go on.
def quiet_seconds(panel, most):
    quiet = most
    for warning in panel.warnings:
        quiet = quiet_seconds_of(panel, warning, quiet)
    return quiet


def skip_seconds(panel, seconds):
    panel.clock += seconds
    for warning in panel.warnings:
        count_seconds(panel, warning, seconds)


# Quiet seconds are taken in one step, as long ticks would be slow otherwise;
# then the second behind them, if it is still due. Answers how many passed, at most so many.
# So what is shown changes in the last second of a stretch alone.
def pass_stretch(panel, most):
    quiet = quiet_seconds(panel, most)
    if quiet > 0:
        skip_seconds(panel, quiet)
    if quiet == most:
        return most
    pass_second(panel)
    return quiet + 1


def pass_seconds(panel, seconds):
    left = seconds
    while left > 0:
        left -= pass_stretch(panel, left)
