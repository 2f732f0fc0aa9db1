"""What the program refuses: one class for each refusal, all straight under PipeError."""


class PipeError(ValueError):
    pass


class BadFill(PipeError):
    pass


class Touch(PipeError):
    def __init__(self, pair):
        PipeError.__init__(self, "two wares come to touch that must not")
        self.pair = pair


class NoWay(PipeError):
    pass


class NoSpacer(PipeError):
    pass


class BadDeed(PipeError):
    def __init__(self, word):
        PipeError.__init__(self, f"the deed is refused: {word}")
        self.word = word


class NoPlan(PipeError):
    pass


class NoDeed(PipeError):
    pass


# The words of the next two leave the numbers out: a number may have more
# figures than Python is willing to write down.
class BadLater(PipeError):
    def __init__(self, place, word):
        PipeError.__init__(self, f"a deed is refused when all are done anew: {word}")
        self.place = place
        self.word = word


class BadRow(PipeError):
    def __init__(self, row):
        PipeError.__init__(self, "a row of the sheet is none that may stand there")
        self.row = row
