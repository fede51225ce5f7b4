"""The refusals of webtimes, one class for each kind."""


class WebError(ValueError):
    """Any refusal but NoName and NoDivisor, made of a text."""


class NoWeb(WebError):
    """What is no web: part is `web`, `places` or `ties`, number that of the wrong tie."""

    def __init__(self, part, number):
        super().__init__(f"no web: {part}, {number}")
        self.part = part
        self.number = number


class NoWebs(WebError):
    """What is no list of webs: number is that of the first thing that is no web."""

    def __init__(self, number):
        super().__init__(f"no webs: {number}")
        self.number = number


class NoText(WebError):
    """What is no written web or webs: part is the number of the wrong part."""

    def __init__(self, part):
        super().__init__(f"no text: {part}")
        self.part = part


class Apart(WebError):
    """A web in several pieces, where one that hangs together is asked for."""


class NoPlace(WebError):
    """What is no place, row, tie, number or list of such."""


class TooBig(WebError):
    """What would be beyond the bounds of webs, products and sums."""


class NoNaming(WebError):
    """What is no naming, and what are no parts of one."""


class NoSum(WebError):
    """What is no sum, or none of the kinds asked for."""


class NoBook(WebError):
    """What is no book."""


class NoDeed(WebError):
    """There is no deed that could be undone."""


class NoLine(WebError):
    """What is no row of words for the desk."""


class NoName(LookupError):
    """The name keeps nothing; it is empty where a book lacks a web."""

    def __init__(self, name):
        super().__init__(f"nothing is kept by the name: {name}")
        self.name = name


class NoDivisor(ZeroDivisionError):
    """A sum is divided by one without terms."""
