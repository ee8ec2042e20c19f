"""Stretches: how units of lanes are best cut into chunks."""

from keptpictures.codes.packing import packed_length

# The mark, the first lane in two bytes, the count, the preset, and three closing bytes.
FRAME = 8


def data_price(bits):
    """Return how many bytes a data chunk has with so many bits and with a preset."""
    return FRAME + packed_length(bits)


def least_prices(units, most):
    """Return the least price of the chunks that hold the units from each one on, and 0 behind the last one.

    Each unit is given by its bits for each preset; a chunk holds at most so many of them.
    """
    sums = [running_sums(column) for column in zip(*units)]
    prices = [0] * (len(units) + 1)
    for unit in reversed(range(len(units))):
        end = min(len(units), unit + most) + 1
        prices[unit] = min([
            data_price(total - own[unit]) + rest
            for own in sums
            for total, rest in zip(own[unit + 1:end], prices[unit + 1:end])
        ])
    return prices


def running_sums(numbers):
    """Return the sums of the numbers before each place, and of all numbers at the end."""
    sums = [0]
    for number in numbers:
        sums.append(sums[-1] + number)
    return sums


def chosen_cuts(units, most):
    """Return the pairs (count, place of the preset) of chunks with the least price, first the longest ones."""
    prices = least_prices(units, most)
    sums = [running_sums(column) for column in zip(*units)]
    cuts = []
    unit = 0
    while unit < len(units):
        end = min(len(units), unit + most)
        places = reaching_places(sums, prices, unit, end)
        while not places:
            end -= 1
            places = reaching_places(sums, prices, unit, end)
        cuts.append((end - unit, places[0]))
        unit = end
    return cuts


def reaching_places(sums, prices, unit, end):
    """Return the places of the presets with which the units up to the end can be the first chunk of the least price."""
    wanted = prices[unit] - prices[end]
    return [place for place, own in enumerate(sums) if data_price(own[end] - own[unit]) == wanted]
