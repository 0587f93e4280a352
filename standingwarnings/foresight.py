"""What is ahead if causes and phase stay as they are. The seconds pass on a copy, as the panel must not change."""

from standingwarnings.seconds import pass_seconds, pass_stretch
from standingwarnings.showing import listed_numbers
from standingwarnings.standing import copied_warning
from standingwarnings.state import Panel


# Without the log, as nobody asks for one that is only foreseen.
def copied_panel(panel):
    twin = Panel()
    twin.clock = panel.clock
    twin.phase = panel.phase
    twin.causes = list(panel.causes)
    twin.warnings = [copied_warning(warning) for warning in panel.warnings]
    return twin


def panel_ahead(panel, seconds):
    twin = copied_panel(panel)
    pass_seconds(twin, seconds)
    return twin


def seconds_till_list_changes(panel, most):
    listed = listed_numbers(panel)
    twin = copied_panel(panel)
    passed = 0
    while passed < most:
        passed += pass_stretch(twin, most - passed)
        if listed_numbers(twin) != listed:
            return passed
    return 0
