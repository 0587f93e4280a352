"""The numbers of the refusals, and what they look at."""

OUT_OF_RANGE = -1
NO_ROW_OF_WARNINGS = -4
TOO_FEW_PARTS = -5
NOT_SHOWN_OR_COME = -6
NOT_NOW = -7
FULL = -8
NOT_OF_THIS_KIND = -9

HIGHEST_PHASE = 9
MOST_WARNINGS = 24
LONGEST_TICK = 600
LATEST_CLOCK = 1000000000


def is_within(number, lowest, highest):
    return lowest <= number and number <= highest


# A range is the pair of its ends.
def are_within(numbers, ranges):
    return all([is_within(number, ends[0], ends[1]) for number, ends in zip(numbers, ranges)])


def is_rising_row(row, lowest, highest):
    before = lowest - 1
    for number in row:
        if number <= before or number > highest:
            return False
        before = number
    return True


def is_row_of_phases(row):
    return is_rising_row(row, 0, HIGHEST_PHASE)


def is_row_of_warnings(panel, row):
    return is_rising_row(row, 0, len(panel.warnings) - 1)


def is_warning(panel, number):
    return is_within(number, 0, len(panel.warnings) - 1)


def is_full(panel):
    return len(panel.warnings) >= MOST_WARNINGS


# 0 if so many seconds may pass: to let them pass and to look ahead are refused alike.
def refusal_of_seconds(panel, seconds):
    if not is_within(seconds, 1, LONGEST_TICK):
        return OUT_OF_RANGE
    if panel.clock + seconds > LATEST_CLOCK:
        return FULL
    return 0
