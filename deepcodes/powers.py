"""Powers of whole numbers."""


def power(base, exponent):
    result = 1
    for _ in range(exponent):
        result *= base
    return result


def rounded_up(number, divisor):
    """The quotient, rounded up to a whole number."""
    return (number + divisor - 1) // divisor
