"""What arguments of several parts of the package are checked for."""
from slantways.errors import InvalidNumber

# Integers that are passed have at most sixty digits.
GREATEST = 10 ** 60 - 1


def is_number(value):
    """Whether a value is an integer of any size."""
    return isinstance(value, int) and not isinstance(value, bool)


def is_whole_between(value, least, most):
    """Whether a value is an integer within two bounds, both of them allowed."""
    return is_number(value) and least <= value <= most


def is_integer(value):
    """Whether a value is an integer that can be passed."""
    return is_whole_between(value, -GREATEST, GREATEST)


def check_integer(number):
    """Refuse what is no integer that can be passed."""
    if not is_integer(number):
        raise InvalidNumber(number)


def is_ascending(value, least, most):
    """Whether a value is an ascending tuple of integers within two bounds."""
    if not isinstance(value, tuple):
        return False
    next_least = least
    for number in value:
        if not is_whole_between(number, next_least, most):
            return False
        next_least = number + 1
    return True


def is_same_row(value, row):
    """Whether a value is a tuple of integers, and the same one as a row."""
    return isinstance(value, tuple) and all([is_number(number) for number in value]) and value == row
