"""What the program refuses: one error for each refusal, all below GroundError."""


class GroundError(ValueError):
    pass


class NoGround(GroundError):
    pass


class NoText(GroundError):
    pass


class NoPart(GroundError):
    pass


class NoMoves(GroundError):
    pass


class NoMark(GroundError):
    pass


class NoRoom(GroundError):
    pass


class NoWatcher(GroundError):
    pass
