"""How one warning was told, and how it stands."""


class StandingWarning:
    def __init__(self, cause, needed, rank, on_delay, off_delay, latch, parts, phases, covers):
        self.cause = cause
        # A collector needs at least 1 part, so 0 tells a plain warning.
        self.needed = needed
        self.rank = rank
        self.on_delay = on_delay
        self.off_delay = off_delay
        self.latch = latch
        self.parts = parts
        self.phases = phases
        self.covers = covers
        self.seconds_on = 0
        self.seconds_off = 0
        self.has_come = False
        self.came_at = 0
        self.acknowledged = False
        self.cancelled = False
        self.shown_since = False
        self.times_come = 0


def forget_the_crew(warning):
    warning.acknowledged = False
    warning.cancelled = False
    warning.shown_since = False


def come(warning, clock):
    warning.has_come = True
    warning.came_at = clock
    warning.times_come += 1
    forget_the_crew(warning)


def go(warning):
    warning.has_come = False
    warning.came_at = 0
    forget_the_crew(warning)


# The rows are never changed, so both may have the same ones.
def copied_warning(warning):
    twin = StandingWarning(
        warning.cause, warning.needed, warning.rank, warning.on_delay, warning.off_delay, warning.latch,
        warning.parts, warning.phases, warning.covers,
    )
    twin.seconds_on = warning.seconds_on
    twin.seconds_off = warning.seconds_off
    twin.has_come = warning.has_come
    twin.came_at = warning.came_at
    twin.acknowledged = warning.acknowledged
    twin.cancelled = warning.cancelled
    twin.shown_since = warning.shown_since
    twin.times_come = warning.times_come
    return twin
