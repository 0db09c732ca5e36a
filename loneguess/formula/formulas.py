"""Formulas: names with "and", "or" and "not"."""

from loneguess.base.names import is_ascending, is_name
from loneguess.errors import InvalidFormula, InvalidName, InvalidOperation

MAX_NAMES = 4
MAX_DEPTH = 8
WORDS = ("all", "and", "none", "not", "or")

# How many parts the tuples of a tree have, by their first ones; those of names are told apart.
_PARTS = {"all": 1, "none": 1, "not": 2, "and": 3, "or": 3}


class Formula:
    """A tree of tuples, ("and", ("name", "one"), ("all",)) for example; it never changes."""

    def __init__(self, tree):
        if not _is_tree(tree, MAX_DEPTH):
            raise InvalidFormula("a formula has a tree of at most eight tuples one in another")
        tuples = _tuples_in(tree)
        names = sorted(list({part[1]: True for part in tuples if part[0] == "name"}))
        if len(names) > MAX_NAMES:
            raise InvalidFormula("a formula has at most four names")
        self._tree = tree
        self._tuples = tuples
        self._names = tuple(names)

    @classmethod
    def of(cls, name):
        """The formula of a single name."""
        if not is_formula_name(name):
            raise InvalidName("a name that is not a word of formulas is wanted")
        return cls(("name", name))

    @property
    def tree(self):
        """The tree."""
        return self._tree

    @property
    def names(self):
        """The set of the names."""
        return self._names

    def holds(self, names):
        """Whether the formula is true if just these names are."""
        if not is_name_set(names):
            raise InvalidOperation("a set of names is wanted")
        return _is_true(self._tree, names)

    def renamed(self, names):
        """The formula with other names."""
        if not isinstance(names, dict):
            raise InvalidOperation("a dict from names to names is wanted")
        for name in names:
            if name not in self._names or not is_formula_name(names[name]):
                raise InvalidOperation("names of the formula can be given other names")
        return Formula(_renamed(self._tree, names))

    def __call__(self, names):
        return self.holds(names)

    def __and__(self, other):
        _check_operand(other)
        return Formula(("and", self._tree, other._tree))

    def __or__(self, other):
        _check_operand(other)
        return Formula(("or", self._tree, other._tree))

    def __sub__(self, other):
        _check_operand(other)
        return Formula(("and", self._tree, ("not", other._tree)))

    def __invert__(self):
        return Formula(("not", self._tree))

    def __len__(self):
        return len(self._tuples)

    def __eq__(self, other):
        return isinstance(other, Formula) and self._tree == other._tree

    def __str__(self):
        return str(_text(self._tree))


def numbers(formula):
    """The pairs (names, number) of the sets of names whose number is not 0."""
    check_formula(formula)
    return numbers_of(formula.names, [formula.holds(names) for names in name_sets(formula.names)])


def are_same(one, other):
    """Whether two formulas are true for the same truth values."""
    return numbers(one) == numbers(other)


def check_formula(value):
    """Raises InvalidFormula unless the value is a formula."""
    if not isinstance(value, Formula):
        raise InvalidFormula("a formula is wanted")


def is_formula_name(value):
    """Whether the value is a name that can stand in a formula."""
    return is_name(value) and value not in WORDS


def is_name_set(value):
    """Whether the value is a set of names."""
    return isinstance(value, tuple) and all([is_name(name) for name in value]) and is_ascending(value)


def name_sets(names):
    """All sets of some of these names, first by their sizes, then ascending."""
    found = [()]
    for name in names:
        found = found + [(*some, name) for some in found]
    return sorted(found, key=lambda some: (len(some), some))


def numbers_of(names, truths):
    """The pairs (names, number) for the truth values at all sets of names, in the order of name_sets."""
    known = {}
    for some, truth in zip(name_sets(names), truths):
        # The numbers of all subsets add up to the truth value, so those of the smaller ones tell this one.
        known[some] = int(truth) - sum([known[less] for less in name_sets(some)[:-1]])
    return tuple([(some, number) for some, number in known.items() if number != 0])


def _check_operand(other):
    if not isinstance(other, Formula):
        raise InvalidOperation("a formula is wanted")


def _is_tree(value, depth):
    """Whether the value is a tree of at most so many tuples one in another, whatever its names are."""
    if depth == 0 or not isinstance(value, tuple) or not value:
        return False
    if value[0] == "name":
        return len(value) == 2 and is_formula_name(value[1])
    if not isinstance(value[0], str) or len(value) != _PARTS.get(value[0], 0):
        return False
    return all([_is_tree(part, depth - 1) for part in value[1:]])


def _tuples_in(tree):
    """All tuples of a tree."""
    if tree[0] == "name":
        return (tree,)
    found = [tree]
    for part in tree[1:]:
        found = found + list(_tuples_in(part))
    return tuple(found)


def _is_true(tree, names):
    word = tree[0]
    if word == "name":
        return tree[1] in names
    parts = [_is_true(part, names) for part in tree[1:]]
    if word == "not":
        return not parts[0]
    return all(parts) if word in ("all", "and") else any(parts)


def _renamed(tree, names):
    if tree[0] == "name":
        return ("name", names.get(tree[1], tree[1]))
    return (tree[0], *[_renamed(part, names) for part in tree[1:]])


def _text(tree):
    word = tree[0]
    if word == "name":
        return tree[1]
    if word == "not":
        return f"not {_part_text(tree[1])}"
    if word in ("and", "or"):
        return f"{_part_text(tree[1])} {word} {_part_text(tree[2])}"
    return word


def _part_text(tree):
    return f"({_text(tree)})" if tree[0] in ("and", "or") else _text(tree)
