"""Files, put together from what the document says of each chunk, to compare the program with."""

from keptpictures.codes.table import Table
from keptpictures.codes.tokens import least_tokens
from tests.chunks_by_hand import chunk_by_hand
from tests.codes_by_hand import binary, bits_by_hand, ladder_by_hand, literals_by_hand, repetitions_by_hand
from tests.filters_by_hand import numbers_by_hand
from tests.passes_by_hand import tracks_by_hand

# They serve the moduli up to 16, 2 to 33, 2 to 17, 4 to 19.
OWN_TABLES = ((((0, 4),), None), (((1, 0), (1, 5)), None), (((1, 0), (2, 4)), (2, 5)), (((2, 1), (2, 0), (1, 4)), None))


def packed_by_hand(bits):
    """Return the numbers of seven bits each, with zeros behind."""
    while len(bits) % 7:
        bits += "0"
    return tuple(int(bits[at:at + 7], 2) for at in range(0, len(bits), 7))


def width_by_hand(modulus):
    width = 0
    while 2 ** width < modulus:
        width += 1
    return width


def body_by_hand(picture, palette):
    """Return the rows of samples of each sheet, and their moduli."""
    if palette is None:
        moduli = [2 ** depth for depth in picture.depths]
        return [[[colour[z] for colour in row] for row in picture.rows] for z in range(len(moduli))], moduli
    return [[[palette.index(colour) for colour in row] for row in picture.rows]], [len(palette)]


def lanes_by_hand(width, height, word, sheets):
    """Return (pass, row, columns, sheet) of each lane."""
    return [(*track, z) for track in tracks_by_hand(width, height, word) for z in range(sheets)]


def head_by_hand(picture, palette, word, spares):
    """Return the content of the head chunk."""
    content = [picture.width, picture.height, len(picture.depths), int(picture.mask), *picture.depths]
    content += [0 if palette is None else len(palette), len(word)]
    return (*content, *["ad".index(letter) for letter in word], spares)


def palette_by_hand(palette, depths):
    """Return the content of the palette chunk."""
    return packed_by_hand("".join(binary(sample, depth) for colour in palette for sample, depth in zip(colour, depths)))


def table_by_hand(code, modulus):
    """Return the rungs and the repeat that a code gives for a modulus."""
    return code if isinstance(code, tuple) else ladder_by_hand(code // 2, code % 2 == 1, modulus)


def code_by_hand(code):
    """Return the numbers that stand for a code."""
    if not isinstance(code, tuple):
        return (code,)
    rungs, repeat = code
    numbers = [64, len(rungs), 0 if repeat is None else 1]
    for entry in list(rungs) + ([] if repeat is None else [repeat]):
        numbers += entry
    return tuple(numbers)


def lane_bits(numbers, code, modulus, chance=None):
    """Return the bits of a coded lane: the least ones, or some others."""
    rungs, repeat = table_by_hand(code, modulus)
    if chance is None:
        tokens = least_tokens(numbers, Table(rungs, repeat))
    else:
        tokens = some_tokens(chance, numbers, 0 if repeat is None else 2 ** repeat[1])
    literals = literals_by_hand(rungs, repeat, max(numbers, default=0) + 1)
    return bits_by_hand(tokens, literals, repetitions_by_hand(rungs, repeat))


def some_tokens(chance, numbers, most):
    """Return any tokens that stand for the numbers, with repetitions up to the greatest one."""
    tokens, place, before = [], 0, 0
    while place < len(numbers):
        run = 0
        while place + run < len(numbers) and numbers[place + run] == before:
            run += 1
        many = chance.randint(0, min(run, most))
        tokens.append(("again", many) if many else ("one", numbers[place]))
        before = numbers[place]
        place += max(many, 1)
    return tokens


class Sheetlike:
    """What numbers_by_hand asks of a sheet."""

    def __init__(self, modulus, rows):
        self.modulus, self.rows, self.width, self.height = modulus, rows, len(rows[0]), len(rows)

    def __getitem__(self, at):
        return self.rows[at[1]][at[0]]


def all_numbers(body, moduli, word, filters):
    """Return the numbers of all lanes of the body, with a filter for each lane."""
    sheets = len(body)
    apart = [numbers_by_hand(Sheetlike(modulus, rows), word, filters[z::sheets])
             for z, (rows, modulus) in enumerate(zip(body, moduli))]
    return [apart[lane % sheets][lane // sheets] for lane in range(len(filters))]


def data_by_hand(first, code, filters, numbers, moduli, chance=None):
    """Return the content of a data chunk with the numbers of these lanes."""
    bits = ""
    for lane, (number, row) in enumerate(zip(filters, numbers), start=first):
        bits += binary(number, 3) + lane_bits(row, code, moduli[lane % len(moduli)], chance)
    return (first // 128, first % 128, len(filters)) + code_by_hand(code) + packed_by_hand(bits)


def spares_by_hand(body, moduli, word, number, spares):
    """Return the spares of a pass, place by place."""
    rows = []
    own = [track for track in tracks_by_hand(len(body[0][0]), len(body[0]), word) if track[0] == number]
    for s in range(spares):
        for sheet, modulus in zip(body, moduli):
            row = []
            for i in range(len(own[0][2])):
                samples = [sheet[y][columns[i]] for _, y, columns in own]
                row.append(sum((k + 1) ** s * sample for k, sample in enumerate(samples)) % modulus)
            rows.append(tuple(row))
    return tuple(rows)


def spare_by_hand(number, rows, moduli):
    """Return the content of a spare chunk."""
    bits = ""
    for place, row in enumerate(rows):
        for spare in row:
            bits += binary(spare, width_by_hand(moduli[place % len(moduli)]))
    return (number,) + packed_by_hand(bits)


def file_by_hand(picture, plan, chance=None):
    """Return the chunks, as (kind, content), of the file with a picture and a plan; some one if there is a chance."""
    palette, word, spares = plan.palette, plan.word, plan.spares
    body, moduli = body_by_hand(picture, palette)
    chunks = [(0, head_by_hand(picture, palette, word, spares))]
    if palette is not None:
        chunks.append((1, palette_by_hand(palette, picture.depths)))
    lanes = lanes_by_hand(picture.width, picture.height, word, len(moduli))
    numbers = all_numbers(body, moduli, word, [number for chunk in plan.chunks for number in chunk[2]])
    first = 0
    for count, code, filters in plan.chunks:
        end = first + count
        chunks.append((2, data_by_hand(first, code, filters, numbers[first:end], moduli, chance)))
        own = lanes[first][0]
        if spares and (end == len(lanes) or lanes[end][0] > own):
            chunks.append((3, spare_by_hand(own, spares_by_hand(body, moduli, word, own, spares), moduli)))
        first = end
    return chunks + [(4, ())]


def bytes_of(chunks):
    """Return the byte text of chunks."""
    return tuple(byte for kind, content in chunks for byte in chunk_by_hand(kind, content))


def ends_of(chunks):
    """Return the places at which the chunks end."""
    ends = []
    for kind, content in chunks:
        ends.append((ends[-1] if ends else 0) + len(chunk_by_hand(kind, content)))
    return ends


def complete_rows(many, left=2 ** 15):
    """Return all rows of so many lengths that are complete."""
    if many == 0:
        return [()] if left == 0 else []
    return [(length,) + rest for length in range(16) if 2 ** (15 - length) <= left
            for rest in complete_rows(many - 1, left - 2 ** (15 - length))]


def width_rows(many, modulus, start=0):
    """Return all rows of widths of so many rungs that begin below the modulus, and together cover all below it."""
    if start >= modulus:
        return []
    if many == 1:
        return [(width,) for width in range(17) if start + 2 ** width >= modulus]
    return [(width,) + rest for width in range(17) for rest in width_rows(many - 1, modulus, start + 2 ** width)]


def all_tables(modulus):
    """Return all own tables that serve a small modulus."""
    found = []
    for rungs in range(1, min(15, modulus) + 1):
        for widths in width_rows(rungs, modulus):
            found += [(tuple(zip(lengths, widths)), None) for lengths in complete_rows(rungs)]
            for lengths in complete_rows(rungs + 1):
                found += [(tuple(zip(lengths, widths)), (lengths[-1], width)) for width in range(6)]
    return found


def all_codes(modulus):
    """Return all codes of files with a small greatest modulus."""
    return list(range(2 * width_by_hand(modulus) + 2)) + all_tables(modulus)


def some_table(chance, modulus):
    """Return the data of an own table that serves the modulus."""
    rungs = chance.randint(1, min(5, modulus))
    widths, start = [], 0
    for behind in reversed(range(rungs)):
        ends = [(width, start + 2 ** width) for width in range(17)]
        width, start = chance.choice([(width, end) for width, end in ends
                                      if (end + behind <= modulus if behind else end >= modulus)])
        widths.append(width)
    repeats = chance.randint(0, 1)
    lengths = [0]
    while len(lengths) < rungs + repeats:
        place = chance.randrange(len(lengths))
        lengths[place:place + 1] = [lengths[place] + 1] * 2
    chance.shuffle(lengths)
    return tuple(zip(lengths, widths)), (lengths[-1], chance.randint(0, 5)) if repeats else None


def some_code(chance, modulus):
    """Return a code of a file with this greatest modulus."""
    if chance.random() < 0.4:
        return some_table(chance, modulus)
    return chance.randint(0, 2 * width_by_hand(modulus) + 1)


def some_chunks(chance, picture, palette, word):
    """Return the chunks of a plan, with any cuts, codes and filters."""
    moduli = [2 ** depth for depth in picture.depths] if palette is None else [len(palette)]
    lanes = lanes_by_hand(picture.width, picture.height, word, len(moduli))
    chunks, first = [], 0
    while first < len(lanes):
        left = sum(lane[0] == lanes[first][0] for lane in lanes[first:])
        count = chance.randint(1, min(100, left, chance.choice((1, 3, 100))))
        filters = tuple(chance.randint(0, 7) for _ in range(count))
        chunks.append((count, some_code(chance, max(moduli)), filters))
        first += count
    return tuple(chunks)
