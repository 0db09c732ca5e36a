"""What many tests ask for."""

from loneguess.errors import InvalidNumber


def expect(case, error, call, *told, **more):
    """The call raises this very error, and no other one; returns what was raised."""
    with case.subTest(call=getattr(call, "__name__", "call"), told=_short(told), more=_short(more)):
        try:
            call(*told, **more)
        except Exception as raised:
            case.assertIs(raised.__class__, error, repr(raised)[:200])
            return raised
        case.fail("no error")
    return None


def expect_number(case, value, call, *told):
    """The call raises InvalidNumber, which keeps this very value."""
    raised = expect(case, InvalidNumber, call, *told)
    if raised is not None:
        case.assertIs(raised.value, value)


def expect_kept(case, error, name, value, call, *told):
    """The call raises this error, which keeps this value under this name."""
    raised = expect(case, error, call, *told)
    if raised is not None:
        case.assertEqual(getattr(raised, name), value)


def _short(value):
    return str(value)[:80]
