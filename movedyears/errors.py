"""The errors of the package: each kind of failure has a class of its own."""


class MovedyearsError(ValueError):
    """What all errors of the package are."""


class LineError(MovedyearsError):
    """A text has a wrong line; lines are counted from 1."""

    def __init__(self, line):
        super().__init__(f"line {line} is wrong")
        self.line = line


class UnknownFact(MovedyearsError):
    """A career has a fact that the machine does not have."""

    def __init__(self, fact):
        super().__init__(f"there is no fact {fact}")
        self.fact = fact


class NoSuchYear(MovedyearsError):
    """A career is too short for a year of moving."""

    def __init__(self, year):
        super().__init__(f"there is no year {year}")
        self.year = year


class PowerCut(MovedyearsError):
    """A device lost its power, with so many octets written on it."""

    def __init__(self, written):
        super().__init__(f"the power went behind {written} octets")
        self.written = written


class NoCarry(MovedyearsError):
    """There is no carry from one scheme to the other one."""

    def __init__(self, scheme, other):
        super().__init__(f"there is no carry from scheme {scheme} to scheme {other}")
        self.scheme = scheme
        self.other = other


class UnlikeFacts(MovedyearsError):
    """Two schemes do not have the same facts in the same order."""

    def __init__(self):
        super().__init__("the facts are not the same in the same order")


class Endless(MovedyearsError):
    """A loss grows without end."""

    def __init__(self):
        super().__init__("a loss grows without end")


class TooManyStates(MovedyearsError):
    """A machine would have more states than asked for."""

    def __init__(self):
        super().__init__("there are more states than asked for")


class ShutError(MovedyearsError):
    """A journaled account whose device lost its power does nothing more."""

    def __init__(self):
        super().__init__("the journaled account is shut")
