"""Tokens: numbers, and repetitions of the number before."""


def numbers_of(tokens):
    """Return the numbers for which the tokens stand."""
    numbers = []
    before = 0
    for word, number in tokens:
        if word == "one":
            numbers.append(number)
            before = number
        else:
            numbers.extend([before] * number)
    return tuple(numbers)


def write_tokens(tokens, table):
    """Return the bits of the tokens."""
    return "".join([token_bits(token, table) for token in tokens])


def token_bits(token, table):
    """Return the bits of one token."""
    word, number = token
    if word == "one":
        return table.literal(number)
    return table.repetition(number)


def least_tokens(numbers, table):
    """Return the tokens that stand for the numbers with the fewest bits."""
    _, repeated = fewest_bits(numbers, table)
    tokens = []
    place = 0
    while place < len(numbers):
        count = repeated[place]
        tokens.append(("again", count) if count > 0 else ("one", numbers[place]))
        place += max(count, 1)
    return tuple(tokens)


def price(numbers, table):
    """Return the fewest bits with which tokens stand for the numbers."""
    bits, _ = fewest_bits(numbers, table)
    return bits


def fewest_bits(numbers, table):
    """Return the price, and for each place how many numbers a repetition takes there, or 0 if a literal stands."""
    literals = [table.literal_price(number) for number in numbers]
    again = table.repetition_price()
    prices = [0] * (len(numbers) + 1)
    repeated = [0] * len(numbers)
    run = 0
    for place in reversed(range(len(numbers))):
        run = run + 1 if numbers[place] == number_before(numbers, place) else 0
        prices[place] = literals[place] + prices[place + 1]
        # Within a run the rest gets no dearer further on, so no shorter repetition beats the longest one.
        count = min(run, table.most_repeated())
        repetition = again + prices[place + count]
        if repetition < prices[place] or (repetition == prices[place] and count > 1):
            prices[place] = repetition
            repeated[place] = count
    return (prices[0], repeated)


def number_before(numbers, place):
    """Return the number before the one at this place of a lane."""
    return numbers[place - 1] if place > 0 else 0
