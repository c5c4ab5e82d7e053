"""The errors of Pageclass. An error with a value keeps the very object that it is given."""


class PageError(ValueError):
    """The base class of all errors of Pageclass."""


class NoSystem(PageError):
    """A parameter of System is invalid."""

    def __init__(self, part):
        self.part = part


class NoProcess(PageError):
    """The argument is not the number of a living process."""

    def __init__(self, process):
        self.process = process


class NoPages(PageError):
    """A parameter of a function is invalid."""

    def __init__(self, part):
        self.part = part


class NotMapped(PageError):
    """A page is not mapped."""

    def __init__(self, page):
        self.page = page


class NoRight(PageError):
    """The rights of a page do not allow the access."""

    def __init__(self, page):
        self.page = page


class PastEnd(PageError):
    """A page shows nothing, because its index is past the end of its file."""

    def __init__(self, page):
        self.page = page


class NoFile(PageError):
    """The argument is not the name of a file."""

    def __init__(self, name):
        self.name = name


class Taken(PageError):
    """There is a file of this name already."""

    def __init__(self, name):
        self.name = name


class NoLock(PageError):
    """A lock forbids the step, or a page cannot be locked."""

    def __init__(self, page):
        self.page = page


class NoCharge(PageError):
    """Strict mode does not admit so great a charge."""


class NoRoom(PageError):
    """Frames and slots have no room for another class."""


class NoHistory(PageError):
    """What the question is about was lost."""


class NoStep(PageError):
    """An item of a list of steps is not a step."""

    def __init__(self, at):
        self.at = at
