"""Integers: what counts as one, common divisors, and integers in texts."""

from math import gcd


def is_integer(value):
    """Tell whether a value is an integer and not True or False."""
    return isinstance(value, int) and not isinstance(value, bool)


def is_natural(value):
    """Tell whether a value is an integer from 0 on."""
    return is_integer(value) and value >= 0


def sign_of(k):
    """Return 1 for an even integer and -1 for an odd one."""
    return 1 if k % 2 == 0 else -1


def common_divisor(numbers):
    """Return the greatest integer from 0 on that divides all numbers."""
    found = 0
    for number in numbers:
        found = gcd(found, number)
    return found


def combination(a, b):
    """Return (g, x, y) with the common divisor g = a x + b y of two integers."""
    last, now = a, b
    last_x, x = 1, 0
    last_y, y = 0, 1
    while now != 0:
        quotient = last // now
        last, now = now, last - quotient * now
        last_x, x = x, last_x - quotient * x
        last_y, y = y, last_y - quotient * y
    if last < 0:
        return -last, -last_x, -last_y
    return last, last_x, last_y


def read_integer(text):
    """Return the integer that a string writes as the document does, or None."""
    digits = text[1:] if text.startswith("-") else text
    if not digits.isascii() or not digits.isdigit():
        return None
    # One text for each integer: neither 07 nor -0 is read.
    if digits.startswith("0") and text != "0":
        return None
    return int(text)
