"""Greatest common divisors, told as sums of multiples."""


def bezout(one, other):
    """Return (common, s, t): the greatest common divisor of a count and a number above 0, s * one + t * other."""
    common, rest = one, other
    s, s_behind = 1, 0
    while rest != 0:
        times = common // rest
        common, rest = rest, common - times * rest
        s, s_behind = s_behind, s - times * s_behind
    return (common, s, (common - s * one) // other)


def inverse(number, modulus):
    """Return the count below a modulus that, times a number without a common divisor, leaves 1 by the modulus."""
    _, times, _ = bezout(number % modulus, modulus)
    return times % modulus
