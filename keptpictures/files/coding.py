"""Coding: the codes of data chunks, which are presets or own tables."""

from keptpictures.codes.table import Table, can_be_table, width_of

# What stands in front of an own table, where otherwise the number of a preset stands.
OWN = 64


def last_preset(modulus):
    """Return the greatest preset that a file with this greatest modulus may use."""
    return 2 * width_of(modulus) + 1


def is_code(code, modulus):
    """Tell whether a file with this greatest modulus may use the code."""
    if not isinstance(code, tuple):
        return 0 <= code <= last_preset(modulus)
    rungs, repeat = code
    if not can_be_table(rungs, repeat):
        return False
    table = Table(rungs, repeat)
    return table.serves(modulus)


def code_tables(code, moduli):
    """Return the tables for the sheets with these moduli."""
    if not isinstance(code, tuple):
        return [Table.preset(code, modulus) for modulus in moduli]
    rungs, repeat = code
    return [Table(rungs, repeat)] * len(moduli)


def code_numbers(code):
    """Return the numbers that stand for the code in a content."""
    if not isinstance(code, tuple):
        return [code]
    rungs, repeat = code
    entries = list(rungs) if repeat is None else [*rungs, repeat]
    return [OWN, len(rungs), len(entries) - len(rungs)] + [number for entry in entries for number in entry]


def code_of(numbers):
    """Return the code for which the numbers stand."""
    if numbers[0] != OWN:
        return numbers[0]
    rungs = numbers[1]
    entries = list(zip(numbers[3::2], numbers[4::2]))
    return (tuple(entries[:rungs]), None if len(entries) == rungs else entries[-1])


def code_choices(numbers, modulus):
    """Return what can follow these numbers of a code for the greatest modulus, and nothing if it is whole."""
    if not numbers:
        return list(range(last_preset(modulus) + 1)) + [OWN]
    return table_choices(numbers[1:], modulus) if numbers[0] == OWN else []


def table_choices(numbers, modulus):
    """Return what can follow these numbers of an own table, and nothing if it is whole."""
    if not numbers:
        # Each rung must begin at a number below the modulus.
        return list(range(1, min(15, modulus) + 1))
    if len(numbers) == 1:
        return [0, 1]
    rungs, repeats = numbers[:2]
    place = (len(numbers) - 2) // 2
    if place == rungs + repeats:
        return []
    if len(numbers) % 2 == 0:
        return length_choices(numbers[2::2], rungs + repeats - place - 1)
    if place == rungs:
        return list(range(6))
    return width_choices(numbers[3::2], rungs - place - 1, modulus)


def length_choices(lengths, behind):
    """Return the lengths that can follow these ones, so that others behind them can make them complete."""
    left = (1 << Table.LONGEST) - sum([1 << (Table.LONGEST - length) for length in lengths])
    return [length for length in range(Table.LONGEST + 1) if is_sum(left - (1 << (Table.LONGEST - length)), behind)]


def is_sum(number, many):
    """Tell whether the number is the sum of exactly so many powers of two."""
    return many <= number and f"{number:b}".count("1") <= many


def width_choices(widths, behind, modulus):
    """Return the widths of rungs that can follow these ones, with so many other rungs behind them."""
    start = sum([1 << width for width in widths])
    ends = [(width, start + (1 << width)) for width in range(17)]
    if behind == 0:
        return [width for width, end in ends if end >= modulus]
    return [width for width, end in ends if end + behind <= modulus]
