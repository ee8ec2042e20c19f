"""Filters, as the table of the document has them, to compare the program with."""

from tests.passes_by_hand import pass_by_hand, steps_by_hand, tracks_by_hand


def places_by_hand(x, y, word):
    """Return the places of the neighbours of a cell by their names."""
    number = pass_by_hand(x, y, word)
    across, down = steps_by_hand(word, number)
    places = {"L": (x - across, y), "U": (x, y - down), "C": (x - across, y - down),
              "LL": (x - 2 * across, y), "UU": (x, y - 2 * down)}
    if number > 0:
        places["H"] = (x + across, y) if word[number - 1] == "a" else (x, y + down)
    return places


def prediction_by_hand(sheet, x, y, number, word):
    """Return the prediction of a filter, modulo the sheet's modulus."""
    near = {"L": 0, "U": 0, "C": 0, "LL": 0, "UU": 0, "H": 0}
    for name, (i, j) in places_by_hand(x, y, word).items():
        if 0 <= i < sheet.width and 0 <= j < sheet.height:
            near[name] = sheet[i, j]
    predictions = (0, near["L"], near["U"], near["C"], near["L"] + near["U"] - near["C"], near["H"],
                   2 * near["L"] - near["LL"], 2 * near["U"] - near["UU"])
    return predictions[number] % sheet.modulus


def folds_by_hand(modulus):
    """Return the residuals in the order of the numbers to which they are folded: 0, m - 1, 1, m - 2, .."""
    residuals = list(range(modulus))
    return [residuals.pop(0 if number % 2 == 0 else -1) for number in range(modulus)]


def numbers_by_hand(sheet, word, filters):
    """Return the numbers of all tracks."""
    folded = {residual: number for number, residual in enumerate(folds_by_hand(sheet.modulus))}
    lanes = []
    for (_, y, columns), number in zip(tracks_by_hand(sheet.width, sheet.height, word), filters):
        residuals = [(sheet[x, y] - prediction_by_hand(sheet, x, y, number, word)) % sheet.modulus for x in columns]
        lanes.append(tuple(folded[residual] for residual in residuals))
    return lanes
