"""The errors of the package, each kind of failure a class of its own."""


class BillError(ValueError):
    """What all other errors are derived from."""

    def __init__(self):
        super().__init__()


class InvalidNumber(BillError):
    """A number is wanted that this is not."""

    def __init__(self, value=None):
        super().__init__()
        self.value = value


class InvalidKind(BillError):
    """A kind is wanted that this is not."""

    def __init__(self, value=None):
        super().__init__()
        self.value = value


class InvalidValue(BillError):
    """A thing of the language is wanted."""

    def __init__(self, value=None):
        super().__init__()
        self.value = value


class InvalidProgram(BillError):
    """A program is wanted."""

    def __init__(self, value=None):
        super().__init__()
        self.value = value


class InvalidName(BillError):
    """A name is wanted that this is not."""

    def __init__(self, value=None):
        super().__init__()
        self.value = value


class InvalidBill(BillError):
    """A bill of the program is wanted."""

    def __init__(self, value=None):
        super().__init__()
        self.value = value


class InvalidPaper(BillError):
    """A paper is wanted that shows what it has to show."""

    def __init__(self, value=None):
        super().__init__()
        self.value = value


class InvalidRows(BillError):
    """Steps or rows of the right form are wanted."""

    def __init__(self, value=None):
        super().__init__()
        self.value = value


class InvalidText(BillError):
    """A text is wrong at the place that is told."""

    def __init__(self, value=None):
        super().__init__()
        self.value = value


class InvalidUnit(BillError):
    """A unit is wanted."""

    def __init__(self, value=None):
        super().__init__()
        self.value = value


class InvalidList(BillError):
    """A list, or another row of things, is wanted that this is not."""

    def __init__(self, value=None):
        super().__init__()
        self.value = value


class InvalidDeed(BillError):
    """The sign of a deed is wanted."""

    def __init__(self, value=None):
        super().__init__()
        self.value = value


class InvalidFlag(BillError):
    """True or False is wanted."""

    def __init__(self, value=None):
        super().__init__()
        self.value = value


class Unlike(BillError):
    """Two things do not go together."""

    def __init__(self, value=None):
        super().__init__()
        self.value = value


class TooMany(BillError):
    """There are more than a bound lets."""

    def __init__(self, value=None):
        super().__init__()
        self.value = value


class NothingToUndo(BillError):
    """No call stands that could be taken back."""


class NothingToRedo(BillError):
    """No call was taken back that could be done again."""
