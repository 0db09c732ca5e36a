"""Whether the value of a tally is 0 at all texts, fair or not."""

from loneguess.base.names import is_text
from loneguess.count.spaces import check_paper_width, independent_rows, is_space
from loneguess.count.tallies import Tally, check_tally, ends_of, plans_of
from loneguess.read.made import check_alike
from loneguess.read.rows import weighed


def is_zero(tally):
    """Whether the value is 0 at all texts."""
    check_tally(tally)
    return _text_in(tally, _rows(tally)) is None


def zero_paper(tally):
    """A paper that a tally is zero, or that it is not."""
    check_tally(tally)
    check_paper_width(tally)
    rows = _rows(tally)
    text = _text_in(tally, rows)
    if text is None:
        return ("space", tuple([row for row, _ in rows]))
    return ("text", text)


def is_zero_paper(tally, value):
    """Whether the value is such a paper of a tally."""
    check_tally(tally)
    if not isinstance(value, tuple) or len(value) != 2:
        return False
    if value[0] == "text":
        return is_text(tally.letters, value[1]) and len(value[1]) < tally.width and tally.worth(value[1]) != 0
    return value[0] == "space" and is_space(tally, value[1], _moves(tally))


def are_as_many(one, other):
    """Whether two readers have for each text the same number of ways."""
    check_alike(one, other)
    return is_zero(Tally(((1, one), (-1, other))))


def _moves(tally):
    return [[plan] for plan in plans_of(tally)]


def _rows(tally):
    return independent_rows(tally, _moves(tally))


def _text_in(tally, rows):
    """The text that leads to the last row if its end is not 0, or None.

    If the ends of the rows are 0, so are those of all rows, which are sums of their multiples.
    """
    if not rows:
        return None
    row, way = rows[-1]
    if weighed(ends_of(tally), row) == 0:
        return None
    return "".join([tally.letters[index] for index in way])
