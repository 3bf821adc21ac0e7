"""The refusals of the program, one class for each."""


class BoxError(ValueError):
    pass


class BadProgram(BoxError):
    def __init__(self, at=None):
        BoxError.__init__(self, f"no program, at {at}")
        self.at = at


class BadRun(BoxError):
    pass


class ByNought(BoxError):
    pass


class BadBoxes(BoxError):
    pass


class NoText(BoxError):
    pass
