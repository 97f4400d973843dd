"""Whole numbers and fractions, tuples (top, bottom), reckoned with."""


def product(numbers):
    """The product of whole numbers."""
    told = 1
    for number in numbers:
        told *= number
    return told


def greatest_divisor(one, other):
    """The greatest whole number that divides both, of which not both are 0."""
    while other != 0:
        one, other = other, one % other
    return abs(one)


def lowest_terms(top, bottom):
    """The fraction in lowest terms."""
    divisor = greatest_divisor(top, bottom)
    return (top // divisor, bottom // divisor)


def common_bottom(fractions):
    """The least bottom that all these fractions can have."""
    told = 1
    for top, bottom in fractions:
        told *= bottom // greatest_divisor(told, bottom)
    return told


def tops_over(common, fractions):
    """The tops that the fractions have over a bottom that all of them can have."""
    return [top * (common // bottom) for top, bottom in fractions]
