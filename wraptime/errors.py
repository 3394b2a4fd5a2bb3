"""What the program refuses: one class for each kind of refusal."""


class WrapError(ValueError):
    """Any refusal."""


class BadWheel(WrapError):
    """A number that is no wheel."""


class BadRule(WrapError):
    """What is no rule, or none on this wheel."""


class BadSeen(WrapError):
    """A number, handed in as shown, that the wheel doesn't show."""


class BadGaps(WrapError):
    """Gaps, looks or abouts that don't go together."""


class BadSpan(WrapError):
    """A span that the wheel hasn't."""


class BadLong(WrapError):
    """How long a timer can't run on the wheel."""


class NoGap(WrapError):
    """No gap is as the rule asks."""


class NoSpan(WrapError):
    """The times can't lie within the span."""
