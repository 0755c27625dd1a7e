"""Sums, products and common divisors of rows of integers."""

from math import gcd


def product_of(one, other):
    """The sum of the products, place by place."""
    return sum([number * factor for number, factor in zip(one, other)])


def sum_of(rows):
    """What rows, one at least, add up to, place by place."""
    return tuple([sum([row[place] for row in rows]) for place in range(len(rows[0]))])


def mixed(one, weight, other, weight_of_other):
    """The first row times its weight and the other one times its own, added."""
    return tuple([number * weight + more * weight_of_other for number, more in zip(one, other)])


def grown(row, times):
    """The row taken so many times."""
    return tuple([number * times for number in row])


def divisor_of(numbers):
    """The greatest integer that divides all numbers, 0 if all are 0."""
    divisor = 0
    for number in numbers:
        divisor = gcd(divisor, number)
        if divisor == 1:
            return 1
    return divisor


def in_lowest_terms(row):
    """The row without a common divisor; it is not 0 everywhere."""
    divisor = divisor_of(row)
    return tuple([number // divisor for number in row])
