"""The refusals of the house, each straight under HouseError."""


class HouseError(ValueError):
    """Any refusal."""


class NoNet(HouseError):
    """It is no net."""


class NoWay(HouseError):
    """It is no list of ways of the net."""


class NoWagon(HouseError):
    """It is no list of wagons, or no wagon of the office."""


class NoRules(HouseError):
    """They are no rules."""


class NoPaper(HouseError):
    """It is no paper; where is the place of its first fault."""

    def __init__(self, where):
        super().__init__(f"no paper, by its place {where}")
        self.where = where


class NoProof(HouseError):
    """What was looked at doesn't hold; where tells its first fault."""

    def __init__(self, where):
        super().__init__(f"no proof, by its {where}")
        self.where = where


class NotYet(HouseError):
    """The paper's day is in a later month than the open one."""


class TooMany(HouseError):
    """The office has as many papers as it may."""


class TooLate(HouseError):
    """The last month is closed."""


class NoLine(HouseError):
    """It is no line of the net."""


class Stopped(HouseError):
    """The line is stopped already."""


class NoMonth(HouseError):
    """It is no closed month."""


class NoBill(HouseError):
    """No such waybill stands, or it has no such penny."""


class NoText(HouseError):
    """It is no written net or paper."""


class NoSaying(HouseError):
    """It is none of the desk's rows."""
