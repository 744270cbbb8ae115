"""The refusals of the house, each straight under HouseError."""


class HouseError(ValueError):
    """Any refusal."""


class NoCalendar(HouseError):
    """What was handed in is no calendar."""


class NoDay(HouseError):
    """What was handed in is no day."""


class NoTerm(HouseError):
    """What was handed in is no term."""


class NoCase(HouseError):
    """What was handed in is no case."""


class NoPaper(HouseError):
    """What was handed in is no paper, or no list of papers."""


class NoPerson(HouseError):
    """What was handed in is no person of the case."""


class NoWord(HouseError):
    """What was asked for is no word of a paper."""


class NoNumber(HouseError):
    """What was handed in is no number of a paper."""


class NoPlan(HouseError):
    """What was handed in is no plan."""


class NoMatter(HouseError):
    """What was handed in is no matter, or no list of matters."""


class NoLaying(HouseError):
    """What was handed in is no laying of the matters."""


class NoAward(HouseError):
    """What was handed in is no award, or no list of awards."""


class NoPayment(HouseError):
    """What was handed in is no payment, or no list of payments."""


class Twice(HouseError):
    """A paper of this number is there already."""

    def __init__(self, number):
        super().__init__("a paper of this number is there already")
        self.number = number


class NoText(HouseError):
    """What was handed in writes nothing."""
