"""Codes, worked out by trying everything, to compare the program with."""

from itertools import product


def binary(number, places):
    """Return the bits of a number, digit by digit."""
    bits = ""
    for _ in range(places):
        bits = str(number % 2) + bits
        number //= 2
    return bits


def words_by_hand(rungs, repeat):
    """Return the codewords, rungs first, as point 36 makes them one after the other."""
    entries = [(length, 0, place) for place, (length, _) in enumerate(rungs)]
    if repeat is not None:
        entries.append((repeat[0], 1, len(rungs)))
    words = {}
    last = None
    for length, _, place in sorted(entries):
        if last is None:
            last = "0" * length
        else:
            last = bin(int(last, 2) + 1)[2:].rjust(len(last), "0")
            last += "0" * (length - len(last))
        words[place] = last
    return tuple(words[place] for place in range(len(entries)))


def starts_by_hand(rungs):
    """Return the starts of the rungs, and behind them the total."""
    starts = [0]
    for _, width in rungs:
        starts.append(starts[-1] + 2 ** width)
    return starts


def literals_by_hand(rungs, repeat, end):
    """Return the literals of the numbers below end that the rungs cover."""
    words, starts = words_by_hand(rungs, repeat), starts_by_hand(rungs)
    literals = {}
    for place, (_, width) in enumerate(rungs):
        for number in range(starts[place], min(starts[place + 1], end)):
            literals[number] = words[place] + binary(number - starts[place], width)
    return literals


def repetitions_by_hand(rungs, repeat):
    """Return the repetitions by their numbers."""
    if repeat is None:
        return {}
    word = words_by_hand(rungs, repeat)[-1]
    return {number: word + binary(number - 1, repeat[1]) for number in range(1, 2 ** repeat[1] + 1)}


def ladder_by_hand(first, repeats, modulus):
    """Return the rungs and the repeat of a ladder."""
    widths, start, width = [], 0, first
    while len(widths) < 11 and start + 2 ** width < modulus:
        widths.append(width)
        start += 2 ** width
        width += 1
    last = 0
    while 2 ** last < modulus - start:
        last += 1
    widths.append(last)
    order = ["rung 0"] + ["repeat"] * repeats + [f"rung {place}" for place in range(1, len(widths))]
    lengths = {name: place + 1 for place, name in enumerate(order)}
    lengths[order[-1]] = len(order) - 1
    rungs = tuple((lengths[f"rung {place}"], width) for place, width in enumerate(widths))
    return rungs, (lengths["repeat"], 3) if repeats else None


def token_lists(numbers, greatest, before=0):
    """Return all lists of tokens that stand for the numbers, with repetitions up to the greatest one."""
    if not numbers:
        return [()]
    lists = [(("one", numbers[0]),) + rest for rest in token_lists(numbers[1:], greatest, numbers[0])]
    for many in range(1, min(greatest, len(numbers)) + 1):
        if numbers[many - 1] != before:
            break
        lists += [(("again", many),) + rest for rest in token_lists(numbers[many:], greatest, before)]
    return lists


def bits_by_hand(tokens, literals, repetitions):
    return "".join(literals[number] if word == "one" else repetitions[number] for word, number in tokens)


def least_by_hand(numbers, rungs, repeat):
    """Return the least tokens, chosen among all lists of tokens, and their number of bits."""
    literals = literals_by_hand(rungs, repeat, max(numbers, default=0) + 1)
    repetitions = repetitions_by_hand(rungs, repeat)

    def rank(tokens):
        turns = [(-1, 0) if word == "one" else (-number, 1) for word, number in tokens]
        return len(bits_by_hand(tokens, literals, repetitions)), turns

    ranked = min((rank(tokens), tokens) for tokens in token_lists(tuple(numbers), len(repetitions)))
    return ranked[1], ranked[0][0]


def coded_lanes(count, modulus, rungs, repeat):
    """Return all coded lanes, with their numbers."""
    literals, repetitions = literals_by_hand(rungs, repeat, modulus), repetitions_by_hand(rungs, repeat)
    lanes = {}
    for numbers in product(range(modulus), repeat=count):
        for tokens in token_lists(numbers, len(repetitions)):
            lanes[bits_by_hand(tokens, literals, repetitions)] = numbers
    return lanes


def beginnings_of(lanes):
    """Return all beginnings of the lanes, the lanes themselves among them."""
    return {lane[:end] for lane in lanes for end in range(len(lane) + 1)}


def first_refused(bits, beginnings):
    """Return the least place such that no lane begins with bits[:place + 1], or None."""
    for place in range(len(bits)):
        if bits[:place + 1] not in beginnings:
            return place
    return None


def tokens_of_bits(bits, count, modulus, rungs, repeat):
    """Return the tokens that are whole at the front of the bits, how many bits they have, and whether they are a lane.

    For tables of any size: nothing but the next token is tried.
    """
    literals, repetitions = literals_by_hand(rungs, repeat, modulus), repetitions_by_hand(rungs, repeat)
    known = {literal: ("one", number) for number, literal in literals.items()}
    tokens, used, left, start = [], 0, count, 0
    longest = max(len(literal) for literal in (*literals.values(), *repetitions.values()))
    while left > 0:
        allowed = known | {bits_: ("again", number) for number, bits_ in repetitions.items() if number <= left}
        for end in range(start, min(start + longest, len(bits)) + 1):
            if bits[start:end] in allowed:
                break
        else:
            return tuple(tokens), used, False
        tokens.append(allowed[bits[start:end]])
        left -= 1 if tokens[-1][0] == "one" else tokens[-1][1]
        used = start = end
    return tuple(tokens), used, True
