"""The refusals of the program: ParleyError is any of them, each of the others is one of its own."""


class ParleyError(ValueError):
    pass


# A text does not write a talk.
class NotRead(ParleyError):
    pass


# A tuple of steps is no row of the talk from one talk to another.
class NoRow(ParleyError):
    pass


# A number is no manner's.
class NoNumber(ParleyError):
    pass


# A step does not go on with what was said.
class NoStep(ParleyError):
    pass


# The answerer was silent ahead, and so the talk is over.
class Over(ParleyError):
    pass
