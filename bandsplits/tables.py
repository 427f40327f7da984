"""Tables: pairs of pairs of rows, which lead pairs of rows to pairs of rows."""

from bandsplits.rows import mirrored, moved, opposite, sum_of_products


def table_determinant(table):
    """The determinant of a table."""
    (upper_left, upper_right), (lower_left, lower_right) = table
    return sum_of_products(((upper_left, lower_right), (opposite(upper_right), lower_left)))


def adjoint_of(table):
    """The table whose products with the first, from both sides, are the unit table times the determinant."""
    (upper_left, upper_right), (lower_left, lower_right) = table
    return ((lower_right, opposite(upper_right)), (opposite(lower_left), upper_left))


def table_product(table, other):
    """The table that leads as the other one does, and then as the first."""
    (upper_left, upper_right), (lower_left, lower_right) = other
    return tuple([
        (
            sum_of_products(((left, upper_left), (right, lower_left))),
            sum_of_products(((left, upper_right), (right, lower_right))),
        )
        for left, right in table
    ])


def turned_table(table):
    """The table with rows and columns exchanged and each row turned round."""
    (upper_left, upper_right), (lower_left, lower_right) = table
    return ((mirrored(upper_left), mirrored(lower_left)), (mirrored(upper_right), mirrored(lower_right)))


def moved_table(table, places):
    """The table with all rows later by so many places."""
    return tuple([(moved(left, places), moved(right, places)) for left, right in table])
