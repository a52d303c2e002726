"""The refusals: one class for each, all of them under CrystalError."""


def copied(thing):
    # Whoever hands a list in may alter it later, the lists within it too: none of them is kept.
    if isinstance(thing, (list, tuple)):
        return [copied(part) for part in thing]
    return thing


class CrystalError(ValueError):
    pass


class NoPlace(CrystalError):
    pass


class NoDeed(CrystalError):
    pass


class NoNumber(CrystalError):
    pass


class NoText(CrystalError):
    pass


class TooMany(CrystalError):
    def __init__(self, apart):
        CrystalError.__init__(self, "there are more members than were allowed")
        self.apart = copied(apart)


class NoChange(CrystalError):
    pass


class NotKept(CrystalError):
    pass


class NoForm(CrystalError):
    pass


class NotWithin(CrystalError):
    pass


class NotLeast(CrystalError):
    pass


class NoDrawing(CrystalError):
    pass


class OffSheet(CrystalError):
    pass


class NoSheet(CrystalError):
    pass


class NoRow(CrystalError):
    pass


class NoName(CrystalError):
    pass
