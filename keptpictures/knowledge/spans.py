"""Spans: all sums of multiples of some vectors modulo a number.

The rows of a span are a list with one row for each place of its vectors. A vector that is given by the row at a place
has zeros before this place, which the row leaves out. The first number of the row, its lead, divides the modulus;
a row of zeros stands where the lead is the modulus itself. Each vector of the span that has zeros before a place is
a sum of multiples of the rows from this place on.
"""

from math import gcd


def empty_rows(length):
    """Return the rows of the span of no vectors."""
    return [[0] * (length - place) for place in range(length)]


def lead_of(row, modulus):
    """Return the least number from 1 on with which a vector of the span can begin where the row begins."""
    return row[0] if row[0] > 0 else modulus


def greatest_divisor(one, other):
    """Return the greatest common divisor d, and s and t with d = s * one + t * other."""
    s, s_behind = 1, 0
    t, t_behind = 0, 1
    while other != 0:
        quotient = one // other
        one, other = other, one - quotient * other
        s, s_behind = s_behind, s - quotient * s_behind
        t, t_behind = t_behind, t - quotient * t_behind
    return (one, s, t)


def mixed(times, row, other_times, other, modulus):
    """Return the sum of the multiples of two rows."""
    return [(times * a + other_times * b) % modulus for a, b in zip(row, other)]


def inserted(rows, vector, modulus):
    """Return the rows of the span with one more vector, and the steps that lead to them.

    After a step (place, s, t, a, b) the row at the place is s times itself and t times what is left of the vector,
    and what is left of the vector is a times the row and b times itself.
    """
    found = list(rows)
    steps = []
    rest = vector
    for place, row in enumerate(rows):
        if rest[0] > 0:
            lead = lead_of(row, modulus)
            divisor, s, t = (lead, 1, 0) if rest[0] % lead == 0 else greatest_divisor(lead, rest[0])
            steps.append((place, s, t, -(rest[0] // divisor), lead // divisor))
            if t != 0:
                found[place] = mixed(s, row, t, rest, modulus)
            rest = mixed(-(rest[0] // divisor), row, lead // divisor, rest, modulus)
        rest = rest[1:]
    return (found, steps)


def enlarged(rows, vectors, modulus):
    """Return the rows of the span with all these vectors, and the trail: the number and the steps of each vector.

    Vectors that were in the span already are left out of the trail, as they change no row.
    """
    now = rows
    trail = []
    for number, vector in enumerate(vectors):
        now, steps = inserted(now, vector, modulus)
        if any([t != 0 for _, _, t, _, _ in steps]):
            trail.append((number, steps))
    return (now, trail)


def multipliers(trail, taken, many, modulus):
    """Return how often each of so many vectors is taken in all, where each row is taken so often."""
    of_rows = list(taken)
    of_vectors = [0] * many
    # What a row and a vector are made of is told by the last step first.
    for number, steps in reversed(list(trail)):
        own = 0
        for place, s, t, a, b in reversed(list(steps)):
            row = of_rows[place]
            of_rows[place] = (s * row + a * own) % modulus
            own = (t * row + b * own) % modulus
        of_vectors[number] = own
    return tuple(of_vectors)


def reached(rows, vector, modulus):
    """Return (times, taken, rest) for the least multiple of a vector that the rows, taken so often, leave nothing of.

    There may be fewer rows than places in the vector; rest is what the rows leave of the places behind.
    """
    times = 1
    taken = []
    rest = vector
    for row in rows:
        lead = lead_of(row, modulus)
        factor = lead // gcd(lead, rest[0])
        number = rest[0] * factor // lead
        times = times * factor
        taken = [earlier * factor % modulus for earlier in taken] + [number]
        rest = mixed(factor, rest, -number, row, modulus)[1:]
    return (times, taken, rest)


def settled_rows(rows, modulus):
    """Return the only rows of the span in which each number is less than the lead of the row at its place."""
    found = list(rows)
    for place in reversed(range(len(rows))):
        row = rows[place]
        for at in range(1, len(row)):
            later = found[place + at]
            number = row[at] // lead_of(later, modulus)
            if number > 0:
                row = row[:at] + mixed(1, row[at:], -number, later, modulus)
        found[place] = row
    return found


def common_rows(rows, others, modulus):
    """Return the rows of the span of all vectors that lie in both spans."""
    length = len(rows)
    # Where a sum of vectors (v, v) of the one span and (w, 0) of the other one begins with zeros, v is -w.
    twice = [row + [0] * (length - len(row)) + row for row in rows]
    vectors = [[0] * (length - len(row)) + row + [0] * length for row in others]
    found, _ = enlarged(twice + empty_rows(length), vectors, modulus)
    return found[length:]


def least_solution(rows, modulus):
    """Return the samples that all rows are true of, least at the last place, then at the one before it, and so on.

    A row is true if its numbers, times the samples from its place on, add up to its last number.
    """
    samples = []
    for row in reversed(list(rows)):
        lead = lead_of(row, modulus)
        rest = row[-1] - sum([weight * sample for weight, sample in zip(row[1:], samples)])
        samples = [rest // lead % (modulus // lead)] + samples
    return samples
