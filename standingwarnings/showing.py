"""What is held back, what is shown, in which order, and what sounds."""

from standingwarnings.events import FIRST_SHOWN, log_event


def is_held_back(panel, warning):
    return panel.phase in warning.phases and not warning.shown_since


def is_covered(warning, shown):
    return any([number in shown for number in warning.covers])


def shown_numbers(panel):
    shown = []
    # What covers a warning is earlier than it, so going up it is settled already.
    for number, warning in enumerate(panel.warnings):
        in_sight = warning.has_come and not warning.cancelled and not is_held_back(panel, warning)
        if in_sight and not is_covered(warning, shown):
            shown.append(number)
    return shown


# The order of the list: rank, then the later one, then the number.
def listed_numbers(panel):
    warnings = panel.warnings
    return sorted(
        shown_numbers(panel),
        key=lambda number: (-warnings[number].rank, -warnings[number].came_at, number),
    )


def unacknowledged_numbers(panel):
    return [number for number in shown_numbers(panel) if not panel.warnings[number].acknowledged]


def sound(panel):
    ranks = [panel.warnings[number].rank for number in unacknowledged_numbers(panel)]
    if 3 in ranks:
        return 2
    if 2 in ranks:
        return 1
    return 0


# The log wants coming, going and first showing in one walk by the warnings' numbers:
# so what came or went (a kind for each such number) is handed in and logged here.
def mark_shown(panel, came_or_went):
    shown = shown_numbers(panel)
    for number, warning in enumerate(panel.warnings):
        if number in came_or_went:
            log_event(panel, came_or_went[number], number)
        if number in shown and not warning.shown_since:
            warning.shown_since = True
            log_event(panel, FIRST_SHOWN, number)
