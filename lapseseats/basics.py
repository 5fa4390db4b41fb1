"""What counts as an integer, a sequence or a number in a text, in the whole package."""


def is_integer_from(value, least):
    """Whether any value is an integer that is not below the least one."""
    # A bool is an int for Python, but no integer for this package.
    return isinstance(value, int) and not isinstance(value, bool) and value >= least


def is_sequence(value):
    """Whether any value may be passed where a sequence is expected."""
    return isinstance(value, (list, tuple))


def is_number_text(text, digits):
    """Whether a text is a number of at most so many decimal digits, without leading zeros."""
    # isdigit alone would take digits of other scripts, too.
    if len(text) > digits or not text.isascii() or not text.isdigit():
        return False
    return text == "0" or text[0] != "0"
