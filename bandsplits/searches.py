"""Where a measure of places is low. It takes a place from 0 to 2 ** depth, and this depth.

The same place is twice that much one deeper.
"""

# How many halvings are made beyond those that seem to be enough.
SPARE_DEPTH = 20


def low_place(measure, depth):
    """The place at which the measure is least, of those at this depth."""
    values = [measure(place, depth) for place in range((1 << depth) + 1)]
    return values.index(min(values))


def least_near(measure, place, depth):
    """The least value of the measure that is found from the place on, going down in shorter and shorter steps."""
    value = measure(place, depth)
    at, deeper = place, depth
    # Near its least value a measure mostly changes as the square of the places does: half of the figures are enough.
    deepest = max(depth, value.bit_length() // 2) + SPARE_DEPTH
    while deeper < deepest:
        at, deeper = 2 * at, deeper + 1
        for side in (-1, 1):
            aside = measure_beside(measure, at + side, deeper, value)
            while aside < value:
                at, value = at + side, aside
                aside = measure_beside(measure, at + side, deeper, value)
    return value


def measure_beside(measure, place, depth, value):
    """The measure's value at the place, or the told one if this is no place."""
    return measure(place, depth) if 0 <= place <= 1 << depth else value
