"""The refusals: one class for each kind, none of them under another kind."""


class FormError(ValueError):
    """Any refusal."""


class NoField(FormError):
    """A name is asked for that the form has not."""


class Taken(FormError):
    """A name would stand twice in one form."""


class BadForm(FormError):
    """A form would have too few or too many names."""


class BadName(FormError):
    """What stands for a name is none."""


class BadNumber(FormError):
    """What stands for a number is none, or a low is not within its size."""


class BadStep(FormError):
    """What stands for a step is none."""


class NoForm(FormError):
    """No form is told by this."""


class NoRecord(FormError):
    """No record is told by this."""


class TooMany(FormError):
    """The book has as many forms as a book may have."""
