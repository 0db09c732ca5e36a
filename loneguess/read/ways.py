"""The ways of a text through the states of a reader."""

from loneguess.base.masks import image, lowest, mask_of, states_of
from loneguess.base.names import check_text
from loneguess.read.readers import check_reader, is_state
from loneguess.read.rows import row_behind


def count_ways(reader, text):
    """The number of the ways of a text."""
    row = row_behind(reader, text)
    return sum([row[state] for state in reader.lasts])


def ways(reader, text):
    """Yields the ways of a text, ascending."""
    _check(reader, text)
    live = masks_ready(reader, text)
    way = _least_way(reader, text, live)
    while way is not None:
        yield way
        way = _next_way(reader, text, live, way)


def first_way(reader, text):
    """The first way of a text, or None."""
    _check(reader, text)
    return _least_way(reader, text, masks_ready(reader, text))


def reached(reader, text):
    """The set of the states to which a text leads from first states."""
    _check(reader, text)
    return states_of(masks_reached(reader, text)[-1])


def ready(reader, text):
    """The set of the states from which a text leads to last states."""
    _check(reader, text)
    return states_of(masks_ready(reader, text)[0])


def is_way(reader, text, value):
    """Whether the value is a way of a text."""
    _check(reader, text)
    if not isinstance(value, tuple) or len(value) != len(text) + 1:
        return False
    if not all([is_state(len(reader), state) for state in value]):
        return False
    if value[0] not in reader.firsts or value[-1] not in reader.lasts:
        return False
    return all([reader.onward(letter)[state] >> other & 1
                for letter, state, other in zip(text, value, value[1:])])


def masks_reached(reader, text):
    """For each index the mask of the states to which a text leads up to it."""
    masks = [mask_of(reader.firsts)]
    for letter in text:
        masks.append(image(reader.onward(letter), masks[-1]))
    return masks


def masks_ready(reader, text):
    """For each index the mask of the states from which the rest of a text leads to last ones."""
    masks = [mask_of(reader.lasts)]
    for letter in text[::-1]:
        masks.append(image(reader.backward(letter), masks[-1]))
    return masks[::-1]


def _check(reader, text):
    check_reader(reader)
    check_text(reader.letters, text)


def _choices(reader, text, live, way, at):
    """The mask of the states that can stand at an index of a way, behind those ahead of it."""
    if at == 0:
        return mask_of(reader.firsts) & live[0]
    return reader.onward(text[at - 1])[way[at - 1]] & live[at]


def _least_way(reader, text, live):
    if not _choices(reader, text, live, (), 0):
        return None
    return _completed(reader, text, live, [])


def _next_way(reader, text, live, way):
    """The way that follows on a way, or None."""
    for at in range(len(text), -1, -1):
        later = _choices(reader, text, live, way, at) >> way[at] + 1
        if later:
            state = way[at] + 1 + lowest(later)
            return _completed(reader, text, live, [*way[:at], state])
    return None


def _completed(reader, text, live, begin):
    """The first one of the ways that begin in this way; there is one."""
    way = list(begin)
    for at in range(len(begin), len(text) + 1):
        way.append(lowest(_choices(reader, text, live, way, at)))
    return tuple(way)
