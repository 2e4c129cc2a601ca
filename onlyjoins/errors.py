"""The errors of the package: what is refused, and what cannot be told."""


class JoinError(ValueError):
    """Any argument that is refused."""


class BadTree(JoinError):
    """A value that is no tree."""

    def __init__(self, value):
        super().__init__("this is no tree")
        self.value = value


class BadRules(JoinError):
    """What was passed makes no rules; the place is the first wrong item, or None."""

    def __init__(self, place):
        super().__init__("these are no rules")
        self.place = place


class BadStore(JoinError):
    """What was passed makes no store; the place is the part that is wrong."""

    def __init__(self, place):
        super().__init__("this is no store")
        self.place = place


class BadUnfolding(JoinError):
    """A value that is no unfolding of the rules."""

    def __init__(self, value):
        super().__init__("this is no unfolding of the rules")
        self.value = value


class BadNumber(JoinError):
    """A value that names nothing that is there."""

    def __init__(self, value):
        super().__init__("this names nothing that is there")
        self.value = value


class BadPaper(JoinError):
    """A paper that does not hold; the place is the part that is wrong."""

    def __init__(self, place):
        super().__init__("this paper does not hold")
        self.place = place


class BadText(JoinError):
    """A text that cannot be read; the line is the first wrong one, or None."""

    def __init__(self, line):
        super().__init__("this text cannot be read")
        self.line = line


class Needed(LookupError):
    """The calls are needed; the paper shows it."""

    def __init__(self, paper):
        super().__init__("the calls are needed")
        self.paper = paper


class TooMany(OverflowError):
    """More is wanted than the package tells; most is how much that is."""

    def __init__(self, most):
        super().__init__("more is wanted than can be told")
        self.most = most
