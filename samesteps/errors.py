"""The errors with which the program refuses what it is handed."""


class StepError(ValueError):
    """Stands above all errors of the program."""


class BadNet(StepError):
    """What was handed in is no net; `at` is the place of the step at fault, or None."""

    def __init__(self, at=None):
        super().__init__(f"no net, at {at}")
        self.at = at


class BadSaying(StepError):
    """What was handed in is no saying; `at` is the number of the row at fault, or None."""

    def __init__(self, at=None):
        super().__init__(f"no saying, at {at}")
        self.at = at


class BadRoom(StepError):
    """What was handed in is no room of the net."""


class BadPairs(StepError):
    """What was handed in is no list of unlike pairs of rooms."""


class TooMany(StepError):
    """What was asked for has more rooms or steps than a net may have."""
