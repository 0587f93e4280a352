"""All that one panel keeps."""

CAUSES = 32


class Panel:
    def __init__(self):
        self.clock = 0
        self.phase = 0
        self.causes = [False for cause in range(CAUSES)]
        self.warnings = []
        self.log = []
        self.events_ever = 0
