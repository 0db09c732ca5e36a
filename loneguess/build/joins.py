"""One text behind another one: texts that are cut into texts of lone readers."""

from loneguess.base.masks import image, lowest, mask_of
from loneguess.base.names import check_text
from loneguess.errors import TooMany
from loneguess.read.lone import check_lone, two_ways
from loneguess.read.made import check_alike
from loneguess.read.readers import MAX_STATES, Reader, check_reader
from loneguess.read.ways import masks_reached, masks_ready


def join(one, other):
    """The reader whose ways of a text are its cuts by two lone readers."""
    _check_lone_both(one, other)
    many = len(one)
    size = many + len(other)
    if size > MAX_STATES:
        raise TooMany(MAX_STATES)
    lasts = tuple([many + state for state in other.lasts])
    if "" in other:
        lasts = one.lasts + lasts
    arrows = [*one.arrows, *[(many + state, letter, many + to) for state, letter, to in other.arrows]]
    for state, letter, to in other.arrows:
        if state in other.firsts:
            arrows.extend([(last, letter, many + to) for last in one.lasts])
    return Reader(one.letters, size, one.firsts, lasts, _as_set(arrows))


def again(reader):
    """The reader whose ways of a text are its chains by a lone reader."""
    check_lone(reader)
    many = len(reader)
    if many + 1 > MAX_STATES:
        raise TooMany(MAX_STATES)
    arrows = []
    for state, letter, to in reader.arrows:
        starts = (state, many) if state in reader.firsts else (state,)
        ends = (to, many) if to in reader.lasts else (to,)
        arrows.extend([(start, letter, end) for start in starts for end in ends])
    return Reader(reader.letters, many + 1, (many,), (many,), _as_set(arrows))


def cuts(one, other, text):
    """The tuple of all cuts of a text by two lone readers, ascending."""
    check_reader(one)
    check_reader(other)
    check_text(one.letters, text)
    _check_lone_both(one, other)
    lasts = mask_of(one.lasts)
    firsts = mask_of(other.firsts)
    masks = list(zip(masks_reached(one, text), masks_ready(other, text)))
    return tuple([at for at, (left, right) in enumerate(masks) if left & lasts and right & firsts])


def chains(reader, text):
    """Yields all chains of a text by a lone reader, ascending."""
    check_reader(reader)
    check_text(reader.letters, text)
    check_lone(reader)
    pieces = Pieces(reader, text)
    chain = _first_chain(pieces, text)
    while chain is not None:
        yield chain
        chain = _next_chain(pieces, chain)


def twice_cut(one, other):
    """The first text that has two cuts or more by two lone readers, or None."""
    return two_ways(join(one, other))


def twice_chained(reader):
    """The first text that has two chains or more by a lone reader, or None."""
    return two_ways(again(reader))


class Pieces:
    """Where the pieces can end of which the chains of a text are made."""

    def __init__(self, reader, text):
        self._reader = reader
        self._text = text
        self._live, self._is_good = _looked_back(reader, text)
        self._known = {}

    def ends(self, start):
        """The mask of the indices at which a piece from an index can end so that the rest has a chain."""
        if start not in self._known:
            self._known[start] = self._ends_from(start)
        return self._known[start]

    def inner_ends(self, start):
        """Those of them that are ahead of the end of the text."""
        return self.ends(start) & (1 << len(self._text)) - 1

    def is_whole(self, start):
        """Whether all of the text from an index can be one piece."""
        return self.ends(start) >> len(self._text) == 1

    def _ends_from(self, start):
        lasts = mask_of(self._reader.lasts)
        states = mask_of(self._reader.firsts)
        found = 0
        for at in range(start, len(self._text)):
            states = image(self._reader.onward(self._text[at]), states) & self._live[at + 1]
            if states == 0:
                break
            if states & lasts and self._is_good[at + 1]:
                found = found | 1 << at + 1
        return found


def _check_lone_both(one, other):
    check_alike(one, other)
    check_lone(one)
    check_lone(other)


def _as_set(arrows):
    return tuple(sorted(list({arrow: True for arrow in arrows})))


def _looked_back(reader, text):
    """What is known of the rests of a text, for each index at which one begins.

    These are the mask of the states from which a piece that has begun, and pieces behind
    it, can make up the rest; and whether the rest is empty or pieces can make it up.
    """
    firsts = mask_of(reader.firsts)
    lasts = mask_of(reader.lasts)
    live, is_good = [lasts], [True]
    for letter in text[::-1]:
        states = image(reader.backward(letter), live[-1])
        is_good.append(states & firsts != 0)
        live.append(states | lasts if is_good[-1] else states)
    return live[::-1], is_good[::-1]


def _first_chain(pieces, text):
    if not text:
        return ()
    return _completed(pieces, []) if pieces.ends(0) else None


def _next_chain(pieces, chain):
    """The chain that follows on a chain, or None."""
    for at in range(len(chain), -1, -1):
        start = chain[at - 1] if at else 0
        least = chain[at] if at < len(chain) else start
        later = pieces.inner_ends(start) >> least + 1
        if later:
            return _completed(pieces, [*chain[:at], least + 1 + lowest(later)])
    return None


def _completed(pieces, begun):
    """The first one of the chains that begin so; there is one."""
    chain = list(begun)
    start = chain[-1] if chain else 0
    while not pieces.is_whole(start):
        start = lowest(pieces.ends(start))
        chain.append(start)
    return tuple(chain)
