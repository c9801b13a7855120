"""What several modules ask of the numbers that they are given."""

from deltamill.errors import BadAxes, UnlikeAxes

MOST_AXES = 4


def is_number(value):
    """Whether the value is an integer; True and False are none."""
    return isinstance(value, int) and not isinstance(value, bool)


def check_axes(axes):
    """Raise BadAxes unless `axes` is a number of axes."""
    if not is_number(axes) or not 1 <= axes <= MOST_AXES:
        raise BadAxes(axes)


def check_like_axes(left, right):
    """Raise UnlikeAxes unless both numbers of axes are the same."""
    if left != right:
        raise UnlikeAxes(left, right)
