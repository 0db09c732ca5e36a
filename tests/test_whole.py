"""What the document promises of all calls together."""

import unittest

from loneguess.desk.desk import Desk
from loneguess.errors import InvalidNumber
from loneguess.formula.shelves import Shelf
from loneguess.text.shell import Shell
from tests.test_interface import KINDS, calls_that_change_nothing
from tests.values import ENDA, NOTHING, ODD, kinds, some_lone_readers, some_readers


def told(value):
    """All that an argument or a result is made of."""
    if isinstance(value, (tuple, list)):
        return [value.__class__.__name__, *map(told, value)]
    if isinstance(value, dict):
        return ["dict", *[(told(key), told(value[key])) for key in value]]
    if value is None or isinstance(value, (int, str)):
        return repr(value)
    return [value.__class__.__name__, [(name, told(part)) for name, part in sorted(vars(value).items())]]


def outcome(call, arguments):
    """What the call returns, or the error that it raises, told wholly."""
    try:
        return told(call(*arguments))
    except Exception as raised:
        return ["raised", raised.__class__.__name__, told(vars(raised))]


class CallTests(unittest.TestCase):
    def test_arguments_stay_and_results_are_equal(self):
        readers = [*some_readers(160, 6, 3), *some_lone_readers(161, 4, 3)]
        for call, wanted in calls_that_change_nothing():
            lists = [[KINDS[kind][0] for kind in wanted]]
            if "reader" in wanted:
                lists.extend([reader if kind == "reader" else KINDS[kind][0] for kind in wanted] for reader in readers)
            wrong = [(KINDS[kind][1] or kinds())[0] for kind in wanted]
            for arguments in [*lists, wrong]:
                before = told(arguments)
                first = outcome(call, arguments)
                self.assertEqual(outcome(call, arguments), first, call)
                self.assertEqual(told(arguments), before, call)

    def test_results_share_nothing(self):
        readers = {"odd": ODD, "ends": ENDA}
        shelf = Shelf("ab", readers)
        readers.clear()
        self.assertEqual(shelf.names, ("ends", "odd"))
        desk = Desk("ab")
        kept = desk.shelf()
        desk.put("odd", ODD)
        self.assertEqual([kept.names, desk.shelf().names], [(), ("odd",)])
        for call, wanted in calls_that_change_nothing():
            found = call(*[KINDS[kind][0] for kind in wanted])
            self.assertNotIsInstance(found, (dict, set, bytes), call)


class ObjectTests(unittest.TestCase):
    def test_equal_accepts_every_value(self):
        objects = [value for value in kinds() if value.__class__.__module__.startswith("loneguess")]
        self.assertGreater(len(objects), 6)
        for one in objects:
            self.assertTrue(one == one)
            for other in [*kinds(), object, 1.5, b"a", {1}, self]:
                self.assertIn(one == other, (True, False))
                self.assertIs(one != other, not one == other)

    def test_iteration_where_there_is_none(self):
        for value in kinds():
            if value.__class__.__module__.startswith("loneguess") and not isinstance(value, (Shelf, Desk)):
                for call in (iter, list, tuple, sorted):
                    with self.assertRaises(TypeError):
                        call(value)
        for value in (Shelf("ab", {"b": ODD, "a": NOTHING}), Desk("ab")):
            self.assertEqual(list(value), list(value.names))
        for value in (Shell("ab"), InvalidNumber(3)):
            with self.assertRaises(TypeError):
                iter(value)

    def test_properties_stand_from_the_beginning(self):
        for value, names in ((ODD, "letters firsts lasts arrows"), (Desk("ab"), "letters names labels"), (Shelf("ab", {}), "letters names"),
                             (KINDS["tally"][0], "parts letters width first"), (KINDS["formula"][0], "tree names")):
            for name in names.split():
                with self.assertRaises(AttributeError):
                    setattr(value, name, None)


if __name__ == "__main__":
    unittest.main()
