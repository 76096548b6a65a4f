"""The refusals: one class for each, all under SumError."""


class SumError(ValueError):
    pass


class NoNet(SumError):
    pass


class NoWorth(SumError):
    pass


class NoPlace(SumError):
    pass


class NoRoad(SumError):
    pass


class NoSteps(SumError):
    pass


class NoPick(SumError):
    pass


class NoSum(SumError):
    pass


class NoWay(SumError):
    pass
