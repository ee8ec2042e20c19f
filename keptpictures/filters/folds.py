"""Folds: residuals on both sides of 0, brought into one row of numbers."""


def fold(residual, modulus):
    """Return the number to which the residual is folded."""
    if 2 * residual < modulus:
        return 2 * residual
    return 2 * (modulus - residual) - 1


def unfold(number, modulus):
    """Return the residual that is folded to the number."""
    if number % 2 == 0:
        return number // 2
    return modulus - (number + 1) // 2
