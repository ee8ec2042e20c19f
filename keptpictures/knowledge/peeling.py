"""Peeling: samples that are found one by one, each from a single fact."""

from math import gcd

from keptpictures.knowledge.spans import greatest_divisor


def peeled(knowledge, z):
    """Return rows with the samples of the sheet number z that are found so, and None for the other cells."""
    modulus = knowledge.moduli[z]
    samples = {}
    left = knowledge.facts(z)
    is_going_on = True
    while is_going_on:
        told = [told_sample(terms, value, modulus) for terms, value in left if is_telling(terms, modulus)]
        for x, y, sample in told:
            samples[(x, y)] = sample
        left = [shortened(terms, value, samples) for terms, value in left]
        is_going_on = len(told) > 0
    rows = [[samples.get((x, y)) for x in range(knowledge.width)] for y in range(knowledge.height)]
    return tuple([tuple(row) for row in rows])


def is_telling(terms, modulus):
    """Tell whether a fact with these terms leaves one sample, with only one value."""
    return len(terms) == 1 and gcd(terms[0][2], modulus) == 1


def told_sample(terms, value, modulus):
    """Return the cell and the sample that a telling fact tells."""
    x, y, weight = terms[0]
    _, inverse, _ = greatest_divisor(weight, modulus)
    return (x, y, value * inverse % modulus)


def shortened(terms, value, samples):
    """Return the fact with the samples that are found inserted."""
    rest = value
    for x, y, weight in terms:
        rest = rest - weight * samples.get((x, y), 0)
    return (tuple([term for term in terms if (term[0], term[1]) not in samples]), rest)
