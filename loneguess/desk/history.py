"""What a desk keeps, what it kept before, and what it can have again."""


class History:
    """Moments, pairs of a shelf and a dict of claims, and the index of the present one; it never changes."""

    def __init__(self, moments, at):
        readers, claims = moments[at]
        self.moments = moments
        self.at = at
        self.readers = readers
        self.claims = claims
        # Apart from the shelf, so that a desk can iterate over what it holds itself.
        self.reader_names = readers.names

    def followed_by(self, readers, claims):
        """The history with a new moment behind the present one; what came behind it is gone."""
        return History((*self.moments[:self.at + 1], (readers, claims)), self.at + 1)

    def has(self, at):
        """Whether there is a moment at an index."""
        return 0 <= at < len(self.moments)

    def moved_to(self, at):
        """The history with the moment at an index as the present one."""
        return History(self.moments, at)


class Block:
    """The history of a desk at the beginning of a block, and what is kept for the block around it."""

    def __init__(self, history, outer):
        self.history = history
        self.outer = outer
