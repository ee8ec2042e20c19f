"""Remains, judged piece by piece as the document says, to compare the program with."""

from tests.chunks_by_hand import chunk_by_hand, is_chunk, mended_by_hand
from tests.codes_by_hand import tokens_of_bits
from tests.files_by_hand import (all_numbers, binary, code_by_hand, data_by_hand, lanes_by_hand, packed_by_hand,
                                 spares_by_hand, spare_by_hand, table_by_hand, width_by_hand)
from tests.test_head import is_content


def pieces_by_hand(data):
    """Return the pairs (start, end) of the pieces."""
    found = []
    for at, byte in enumerate(data):
        if byte >= 128:
            found.append([at, at])
        if found:
            found[-1][1] = at + 1
    return [tuple(pair) for pair in found]


def bits_of_content(content):
    return "".join(binary(number, 7) for number in content)


def palette_of_content(content, depths, many):
    """Return the colours of the content of a palette chunk, or None."""
    bits = bits_of_content(content)
    end = many * sum(depths)
    if len(content) != (end + 6) // 7 or "1" in bits[end:]:
        return None
    colours, at = [], 0
    for _ in range(many):
        colour = []
        for depth in depths:
            colour.append(int(bits[at:at + depth], 2))
            at += depth
        colours.append(tuple(colour))
    return tuple(colours) if len(set(colours)) == many else None


def code_of_content(content, modulus):
    """Return the code of a data content behind its first three numbers, and how many numbers it has, or None."""
    if not content:
        return None
    if content[0] != 64:
        return (content[0], 1) if content[0] <= 2 * width_by_hand(modulus) + 1 else None
    if len(content) < 3 or content[2] > 1:
        return None
    many = content[1] + content[2]
    numbers = content[3:3 + 2 * many]
    if len(numbers) < 2 * many or not 1 <= content[1] <= 15:
        return None
    entries = list(zip(numbers[::2], numbers[1::2]))
    rungs, repeat = tuple(entries[:content[1]]), entries[-1] if content[2] else None
    if any(length > 15 for length, _ in entries) or any(width > 16 for _, width in rungs) or (repeat and repeat[1] > 5):
        return None
    starts = [sum(2 ** width for _, width in rungs[:place]) for place in range(len(rungs) + 1)]
    if sum(2 ** (15 - length) for length, _ in entries) != 2 ** 15 or starts[-2] >= modulus or starts[-1] < modulus:
        return None
    return (rungs, repeat), 3 + 2 * many


def data_of_content(head, content):
    """Return (first, code, filters, rows) of a data content, or None."""
    lanes = lanes_by_hand(head.width, head.height, head.word, len(head.moduli))
    if len(content) < 4:
        return None
    first, count = 128 * content[0] + content[1], content[2]
    own = lanes[first:first + count]
    if not 1 <= count <= 100 or len(own) < count or any(lane[0] != own[0][0] for lane in own):
        return None
    told = code_of_content(content[3:], max(head.moduli))
    if told is None:
        return None
    code, used = told
    bits = bits_of_content(content[3 + used:])
    at, filters, rows = 0, [], []
    for _, _, columns, z in own:
        if len(bits) < at + 3:
            return None
        filters.append(int(bits[at:at + 3], 2))
        at += 3
        rungs, repeat = table_by_hand(code, head.moduli[z])
        tokens, lane_used, whole = tokens_of_bits(bits[at:], len(columns), head.moduli[z], rungs, repeat)
        if not whole:
            return None
        row = []
        for word, number in tokens:
            row += [number] if word == "one" else [row[-1] if row else 0] * number
        rows.append(tuple(row))
        at += lane_used
    if len(bits) - at > 6 or "1" in bits[at:]:
        return None
    return first, code, tuple(filters), tuple(rows)


def spare_of_content(head, content):
    """Return (pass, rows) of a spare content, or None."""
    if not head.spares or not content:
        return None
    own = [lane for lane in lanes_by_hand(head.width, head.height, head.word, 1) if lane[0] == content[0]]
    if not own:
        return None
    bits, at, rows = bits_of_content(content[1:]), 0, []
    for _ in range(head.spares):
        for modulus in head.moduli:
            row = []
            for _ in own[0][2]:
                part = bits[at:at + width_by_hand(modulus)]
                if len(part) < width_by_hand(modulus) or int("0" + part, 2) >= modulus:
                    return None
                row.append(int("0" + part, 2))
                at += len(part)
            rows.append(tuple(row))
    if len(bits) - at > 6 or "1" in bits[at:]:
        return None
    return content[0], tuple(rows)


def salvage_by_hand(data, head_of, head=None, colours=None, mend=False):
    """Return (head, colours, data, spares, report), or None if there is no head; head_of makes heads of contents."""
    found = []
    for start, end in pieces_by_hand(data):
        piece, state = data[start:end], "kept"
        if not is_chunk(piece):
            state = "mended"
            piece = mended_by_hand(piece) if mend and 4 <= len(piece) <= 129 else None
        found.append((start, end, -1 if piece is None else piece[0] - 128, () if piece is None else piece[1:-3], state))
    first_head = [place for place, row in enumerate(found) if row[2] == 0 and is_content(row[3])][:1]
    if head is not None:
        first_head = []
    elif not first_head:
        return None
    else:
        head = head_of(found[first_head[0]][3])
    first_palette = []
    if head.colours and colours is None:
        told = [(place, palette_of_content(row[3], head.depths, head.colours))
                for place, row in enumerate(found) if row[2] == 1]
        first_palette = [place for place, palette in told if palette is not None][:1]
        colours = ([palette for _, palette in told if palette is not None] + [None])[0]
    report, kept = [], {2: [], 3: []}
    for place, (start, end, kind, content, state) in enumerate(found):
        if kind in (0, 1):
            state = state if place in first_head + first_palette else "idle"
        elif kind in (2, 3):
            told = data_of_content(head, content) if kind == 2 else spare_of_content(head, content)
            if told is None:
                state = "lost"
            else:
                kept[kind].append(content)
        elif kind == 4:
            state = "lost" if content else "idle"
        else:
            state = "lost"
        report.append((start, end, kind, state))
    return head, colours, tuple(kept[2]), tuple(kept[3]), tuple(report)


def fits_by_hand(head, data, spares, body):
    """Tell whether the rows of samples of a body of the right size agree with these contents."""
    for content in data:
        first, _, filters, rows = data_of_content(head, content)
        lanes = len(lanes_by_hand(head.width, head.height, head.word, len(head.moduli)))
        whole = [0] * lanes
        whole[first:first + len(filters)] = filters
        if tuple(all_numbers(body, head.moduli, head.word, whole)[first:first + len(filters)]) != rows:
            return False
    for content in spares:
        number, rows = spare_of_content(head, content)
        if spares_by_hand(body, head.moduli, head.word, number, head.spares) != rows:
            return False
    return True


def whole_by_hand(head, colours, data, body):
    """Return the chunks of the whole file of remains and a body that fits them."""
    lanes = lanes_by_hand(head.width, head.height, head.word, len(head.moduli))
    used, holder = [], {}
    for content in data:
        first, _, filters, _ = data_of_content(head, content)
        own = range(first, first + len(filters))
        if not any(lane in holder for lane in own):
            used.append(content)
            holder.update({lane: content for lane in own})
    chunks = [(0, head.content())]
    if head.colours:
        places = sum(head.depths)
        bits = [binary(number, places) for number in range(head.colours)]
        if colours is not None:
            bits = ["".join(binary(sample, depth) for sample, depth in zip(colour, head.depths)) for colour in colours]
        chunks.append((1, packed_by_hand("".join(bits))))
    numbers = all_numbers(body, head.moduli, head.word, [0] * len(lanes))
    lane = 0
    while lane < len(lanes):
        own = lanes[lane][0]
        if lane in holder:
            chunks.append((2, holder[lane]))
            count = holder[lane][2]
        else:
            count = 1
            while count < 100 and lane + count < len(lanes):
                if lanes[lane + count][0] != own or lane + count in holder:
                    break
                count += 1
            chunks.append((2, data_by_hand(lane, 0, (0,) * count, numbers[lane:lane + count], head.moduli)))
        lane += count
        if head.spares and (lane == len(lanes) or lanes[lane][0] != own):
            rows = spares_by_hand(body, head.moduli, head.word, own, head.spares)
            chunks.append((3, spare_by_hand(own, rows, head.moduli)))
    return chunks + [(4, ())]
