"""Values and checks that several test files share."""

GREAT = 10 ** 39 + 7


class Odd:
    """A value of a kind of its own, which says that it is equal to everything."""

    def __eq__(self, other):
        return True

    __hash__ = None


# No integers, wherever an integer must stand.
NO_NUMBERS = (True, False, None, 1.0, 0.5, "1", "", b"1", (), (1,), [1], [], {1: 1}, {1}, 1j, range(3), Odd(), int)

# Neither rows nor moments of any number of axes.
NO_ROWS = (None, True, False, 0, 1, -1, 1.5, "", "12", b"\x01", [], [0], [0, 0], {}, {0: 0}, {0}, range(2), Odd(),
           tuple, (True,), (False,), (0, True), (True, 0), (None,), ("0",), (0, "0"), (0.0,), (0, 1.0), ((0,),), ([0],),
           (0, [0]), (0, (0,)), (b"",), (Odd(),), (0, 0, False), (0, 0, 0, True))


def refused(test, error, told, call, *args, **named):
    """Check that the call raises exactly this error, with these attributes: same values of the same classes."""
    with test.assertRaises(error) as caught:
        call(*args, **named)
    test.assertIs(type(caught.exception), error)
    for name, value in told.items():
        got = getattr(caught.exception, name)
        test.assertIs(type(got), type(value), (name, got))
        if not isinstance(value, Odd):
            test.assertEqual(repr(got), repr(value), name)
