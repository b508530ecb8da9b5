"""What several test files need."""


def pair(fraction):
    """A fraction of Python's own as the share that the program is to tell."""
    return (fraction.numerator, fraction.denominator)
