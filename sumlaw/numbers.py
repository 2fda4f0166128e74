"""Numbers that divide two numbers, and numbers that two numbers divide."""


def common(a, b):
    """The greatest number that divides both, without a sign; 0 of 0 and 0."""
    greater = abs(a)
    smaller = abs(b)
    while smaller != 0:
        left = greater % smaller
        greater = smaller
        smaller = left
    return greater


def least_common(a, b):
    """The least number that both divide, a and b from 1 on."""
    return a // common(a, b) * b
