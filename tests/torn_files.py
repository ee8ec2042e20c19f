"""Files that lost something, for the tests of what is left."""

from keptpictures.files.plan import Plan
from keptpictures.files.writer import write_file
from keptpictures.hurts.remains import salvage
from tests.chunks_by_hand import chunk_by_hand
from tests.files_by_hand import file_by_hand, some_chunks
from tests.helpers import some_colour, some_picture


def torn_case(chance, width, height, depths, mask=False, coloured=False, word="", spares=0):
    """Return a picture, its plan, its chunks as (kind, content), and its file."""
    picture = some_picture(chance, width, height, depths, mask)
    palette = None
    if coloured:
        colours = picture.colour_list()
        colours += [colour for colour in {some_colour(chance, depths)} if colour not in colours]
        chance.shuffle(colours)
        palette = tuple(colours)
    plan = Plan(palette, word=word, spares=spares, chunks=some_chunks(chance, picture, palette, word))
    return picture, plan, file_by_hand(picture, plan), write_file(picture, plan)


def without(chunks, lost):
    """Return the byte text of the chunks but those with the numbers that are lost."""
    return tuple(byte for k, (kind, content) in enumerate(chunks) if k not in lost
                 for byte in chunk_by_hand(kind, content))


def torn_in_some_way(chance, chunks):
    """Return the bytes of a head, and behind it what was cut, hurt or lost."""
    head = chunk_by_hand(*chunks[0])
    data = without(chunks, [0])
    kind = chance.randrange(3)
    if kind == 0:
        return head + data[:chance.randint(0, len(data))]
    if kind == 1:
        hurt = list(data)
        for _ in range(chance.randint(1, 4)):
            # The mark behind the head stays, so that the head does.
            hurt[chance.randrange(1, len(hurt))] = chance.randrange(256)
        return head + tuple(hurt)
    return without(chunks, [k for k in range(1, len(chunks)) if chance.random() < 0.4])


def some_remains(chance, coloured=None):
    """Return the remains of a small file with few bodies, with the palette or without it."""
    depths = chance.choice([(1,), (2,), (1, 1), (1, 2), (3,)])
    width, height = chance.choice([(1, 1), (2, 1), (1, 2), (2, 2), (3, 1)] if sum(depths) < 3 else [(1, 1), (2, 1)])
    mask = depths == (1, 1) and chance.random() < 0.5
    coloured = chance.random() < 0.5 if coloured is None else coloured
    _, _, chunks, _ = torn_case(chance, width, height, depths, mask, coloured,
                                "".join(chance.choice("ad") for _ in range(chance.randint(0, 2))),
                                chance.randint(0, 3))
    return salvage(torn_in_some_way(chance, chunks), mend=chance.random() < 0.3)
