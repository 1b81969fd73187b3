"""The refusals of the package, all straight under FloorError."""


class FloorError(ValueError):
    pass


class NoFloor(FloorError):
    pass


class NoPlace(FloorError):
    pass


class NoNumber(FloorError):
    pass


class NoRow(FloorError):
    pass


class Unlike(FloorError):
    pass


class NoTile(FloorError):
    def __init__(self, tile):
        self.tile = tile


class NoRule(FloorError):
    def __init__(self, number):
        self.number = number


class NoText(FloorError):
    def __init__(self, row):
        self.row = row


class TooGreat(FloorError):
    def __init__(self, many, most):
        self.many = many
        self.most = most
