"""What mills and branches ask of the tables and the rows that they are given."""

from deltamill.bags import is_row
from deltamill.errors import BadRow, NoTable


def check_table(name, widths):
    """Raise NoTable unless the name is one of the widths."""
    if not isinstance(name, str) or name not in widths:
        raise NoTable(name)


def check_row(row, width):
    """Raise BadRow unless this is a row of the width."""
    if not is_row(row) or len(row) != width:
        raise BadRow(row)
