"""What arguments of several parts of the package are checked for."""


def is_whole_between(value, least, most):
    """Whether a value is an integer within two bounds, both of them allowed."""
    if isinstance(value, bool) or not isinstance(value, int):
        return False
    return least <= value <= most
