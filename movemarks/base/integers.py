"""Integers, prime numbers, and ratios of integers."""

from math import gcd, lcm

from movemarks.errors import InvalidNumber, InvalidOperation

MAX_PRIME = 100
MAX_FACTORED = 10 ** 9
MOST_NUMBERS = 1000

# The least integer that has more than the sixty digits of what is passed.
_TOO_LONG = 10 ** 60


def is_whole(value):
    """Whether the value is an integer, with any number of digits."""
    return isinstance(value, int) and not isinstance(value, bool)


def is_integer(value):
    """Whether the value is an integer of at most sixty digits."""
    return is_whole(value) and -_TOO_LONG < value < _TOO_LONG


def is_between(value, least, most):
    """Whether the value is an integer from the least to the most one."""
    return is_whole(value) and least <= value <= most


def need_between(value, least, most):
    """Raises the error for a value that is no integer from the least to the most one."""
    if not is_between(value, least, most):
        raise InvalidNumber(value)


def is_prime(value):
    """Whether the value is a prime number below 100."""
    if not is_between(value, 2, MAX_PRIME - 1):
        return False
    return all([value % divisor != 0 for divisor in range(2, value)])


def need_prime(prime):
    """Raises the error for a value that is no prime number below 100."""
    if not is_prime(prime):
        raise InvalidNumber(prime)


def is_ratio(value):
    """Whether the value is a ratio of integers of at most sixty digits."""
    if not isinstance(value, tuple) or len(value) != 2:
        return False
    if not is_integer(value[0]) or not is_integer(value[1]):
        return False
    return value[1] > 0 and gcd(value[0], value[1]) == 1


def prime_factors(number):
    """The dict from the prime numbers that divide the number to how often each one does."""
    need_between(number, 1, MAX_FACTORED)
    factors = {}
    rest = number
    divisor = 2
    while divisor * divisor <= rest:
        while rest % divisor == 0:
            factors[divisor] = factors.get(divisor, 0) + 1
            rest = rest // divisor
        divisor += 1
    if rest > 1:
        factors[rest] = 1
    return factors


def _need_divided(number):
    if not is_integer(number) or number == 0:
        raise InvalidNumber(number)


def part_at(prime, number):
    """The greatest power of the prime that divides the number."""
    need_prime(prime)
    _need_divided(number)
    part = 1
    while number % (part * prime) == 0:
        part = part * prime
    return part


def _need_numbers(numbers):
    if not isinstance(numbers, tuple) or len(numbers) > MOST_NUMBERS:
        raise InvalidOperation("not a tuple of at most 1000 integers")
    if not all([is_integer(number) for number in numbers]):
        raise InvalidOperation("a member is no integer of at most sixty digits")


def common_divisor(numbers):
    """The greatest common divisor; 0 if all numbers are 0 or there are none."""
    _need_numbers(numbers)
    divisor = 0
    for number in numbers:
        divisor = gcd(divisor, number)
    return divisor


def common_multiple(numbers):
    """The least common multiple of integers above 0; 1 if there are none."""
    _need_numbers(numbers)
    if not all([number > 0 for number in numbers]):
        raise InvalidOperation("a member is not above 0")
    multiple = 1
    for number in numbers:
        multiple = lcm(multiple, number)
    return multiple


def raised(number, many):
    """The product of so many times the number; 1 for none."""
    power = 1
    for _ in range(many):
        power = power * number
    return power


def reduced(top, bottom):
    """The ratio of two integers with any number of digits, the second one other than 0."""
    shared = gcd(top, bottom)
    if bottom < 0:
        shared = -shared
    return top // shared, bottom // shared


def lowest(top, bottom):
    """The ratio of two integers."""
    if not is_integer(top):
        raise InvalidNumber(top)
    _need_divided(bottom)
    return reduced(top, bottom)
