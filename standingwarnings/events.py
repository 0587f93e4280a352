"""The log: what happened, each event with its time, a kind and a warning."""

CAME = 1
WENT = 2
FIRST_SHOWN = 3
ACKNOWLEDGED = 4
CANCELLED = 5
CALLED_BACK = 6
WAS_RESET = 7

KEPT_EVENTS = 200


def log_event(panel, kind, number):
    panel.events_ever += 1
    panel.log.append((panel.clock, kind, number))
    if len(panel.log) > KEPT_EVENTS:
        panel.log.pop(0)


def log_each(panel, kind, numbers):
    for number in numbers:
        log_event(panel, kind, number)
