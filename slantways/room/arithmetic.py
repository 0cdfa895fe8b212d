"""The sums and products of the elements of a field, told by the digits of the elements."""

# What the element x to the power of the number of digits is, where there are several digits [8.2].
FULL_POWERS = {4: 3, 8: 3, 9: 2}


def digit_sum(prime, x, y):
    """The sum of two elements, digit by digit without carrying."""
    total = 0
    place = 1
    left_x = x
    left_y = y
    while left_x > 0 or left_y > 0:
        total = total + (left_x + left_y) % prime * place
        left_x = left_x // prime
        left_y = left_y // prime
        place = place * prime
    return total


def digit_multiple(prime, many, x):
    """An element added to 0 so many times."""
    total = 0
    for _ in range(many):
        total = digit_sum(prime, total, x)
    return total


def next_power(size, prime, x):
    """An element of a field with several digits, times the element x."""
    top = x // (size // prime)
    rest = x % (size // prime) * prime
    return digit_sum(prime, rest, digit_multiple(prime, top, FULL_POWERS[size]))


def digit_product(size, prime, x, y):
    """The product of two elements, as sums of powers that stand for their digits."""
    if size == prime:
        return x * y % prime
    total = 0
    power = x
    left = y
    while left > 0:
        total = digit_sum(prime, total, digit_multiple(prime, left % prime, power))
        power = next_power(size, prime, power)
        left = left // prime
    return total


def sum_table(size, prime):
    """The tuple that has for each element the tuple of its sums with all elements."""
    return tuple([tuple([digit_sum(prime, x, y) for y in range(size)]) for x in range(size)])


def product_table(size, prime):
    """The tuple that has for each element the tuple of its products with all elements."""
    return tuple([tuple([digit_product(size, prime, x, y) for y in range(size)]) for x in range(size)])


def order_in(products, x):
    """The least exponent of at least 1 with which the power of an element other than 0 is 1."""
    order = 1
    power = x
    while power != 1:
        power = products[power][x]
        order += 1
    return order
