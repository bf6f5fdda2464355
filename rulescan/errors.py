"""The refusals of rulescan."""


class RuleError(ValueError):
    """Any refusal."""


class NoPattern(RuleError):
    """A leaf has no sign, or a sign twice, or an "or" has no parts."""


class TooMany(RuleError):
    """There are no patterns, or too many patterns or leaves."""


class TooGreat(RuleError):
    """The table of the patterns would be too great."""


class NoRow(RuleError):
    """A number is no row's, or no text leads to the row."""
