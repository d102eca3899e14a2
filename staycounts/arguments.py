"""Checks of arguments that several files share."""

from staycounts.errors import InvalidLength, InvalidNumber, InvalidStay, InvalidTick

MAX_LENGTH = 60


def is_integer_from(value, low, high):
    """Return whether a value is an integer from `low` to `high`."""
    # A bool is an int in Python, but never an integer here.
    return isinstance(value, int) and not isinstance(value, bool) and low <= value <= high


def is_written_number(text, digits):
    """Return whether a text is a number of at most so many digits, without leading zeros."""
    # isdigit alone would also take digits of other scripts.
    if not text.isascii() or not text.isdigit():
        return False
    return len(text) <= digits and (text == "0" or not text.startswith("0"))


def check_tick(tick, low, high):
    """Raise InvalidTick if a value is not an integer from `low` to `high`."""
    if not is_integer_from(tick, low, high):
        raise InvalidTick(tick)


def check_number(number, low, high):
    """Raise InvalidNumber if a value is not an integer from `low` to `high`."""
    if not is_integer_from(number, low, high):
        raise InvalidNumber(number)


def check_range(ticks, first, last):
    """Raise InvalidTick if two values are not a range of counts with so many ticks."""
    check_tick(first, 0, ticks - 1)
    check_tick(last, first, ticks - 1)


def check_length(length, low):
    """Raise InvalidLength if a value is not an integer from `low` to 60."""
    if not is_integer_from(length, low, MAX_LENGTH):
        raise InvalidLength(length)


def is_stay_within(ticks, value):
    """Return whether a value is a stay of counts with so many ticks."""
    if not isinstance(value, tuple) or len(value) != 2:
        return False
    arrived, left = value
    return is_integer_from(arrived, 0, ticks - 1) and is_integer_from(left, arrived, ticks)


def check_stays(ticks, stays):
    """Raise InvalidStay if one of the values is not a stay of counts with so many ticks."""
    for index, value in enumerate(stays):
        if not is_stay_within(ticks, value):
            raise InvalidStay(index)


def check_ended_stays(ticks, stays):
    """Raise InvalidStay if one of the values is not an ended stay of counts with so many ticks."""
    for index, value in enumerate(stays):
        if not is_stay_within(ticks, value) or value[1] == ticks:
            raise InvalidStay(index)
