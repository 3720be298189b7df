"""The refusals of the program."""


class PostError(ValueError):
    pass


class BadText(PostError):
    pass


class NoRow(PostError):
    pass


class Tied(PostError):
    pass


class NotTied(PostError):
    pass


class Owned(PostError):
    pass


class NoHouse(PostError):
    pass


class NoNote(PostError):
    pass


class BadDeed(PostError):
    pass
