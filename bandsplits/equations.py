"""Lines of whole numbers. Several of them lead a line to another one: to its products with each of them, summed."""

from bandsplits.polynomials import over_content, together_over_content, weighed_sum
from bandsplits.ratios import ONE, ZERO, reduced


def led_by(lines, line):
    """The line to which the lines lead a line."""
    return [sum([number * weight for number, weight in zip(line, weights)]) for weights in lines]


def less_on_diagonal(lines, number):
    """The lines, the number taken away from the first one's first number, the second one's second number, .."""
    return [line[:at] + [line[at] - number] + line[at + 1:] for at, line in enumerate(lines)]


def weighed_difference(up, line, down, other):
    """The line times up, less the other one times down."""
    return [up * number - down * more for number, more in zip(line, other)]


def least_rule(lines, line):
    """The least polynomial, up to a number, that makes noughts of the line if the lines stand for its variable."""
    known = []
    this, rule = line, [1]
    while any(this):
        place = [number != 0 for number in this].index(True)
        known.append((place, this, rule))
        this, rule = led_by(lines, this), [0] + rule
        # One place after the other is made 0; all of them are just if this is a sum of those that are known.
        for at, other, other_rule in known:
            if this[at] != 0:
                up, down = other[at], this[at]
                rule = weighed_sum(up, rule, -down, other_rule)
                this, rule = together_over_content((weighed_difference(up, this, down, other), rule))
    return rule


def without_place(line, other, place):
    """The line, times a number, less as much of the other one as makes 0 of it at the place."""
    if line[place] == 0:
        return line
    out = weighed_difference(other[place], line, line[place], other)
    return over_content(out) if any(out) else out


def kernel_of(lines):
    """The one line of fractions, up to a factor, that the lines lead to noughts."""
    rest, solved = lines, []
    free = 0
    for place in range(len(lines[0])):
        found = [line for line in rest if line[place] != 0]
        if found:
            pivot = found[0]
            rest = [without_place(line, pivot, place) for line in rest]
            solved = [(at, without_place(line, pivot, place)) for at, line in solved] + [(place, pivot)]
        else:
            free = place
    # What is solved has numbers at its own place and at the free one alone.
    out = [ZERO] * len(lines[0])
    out[free] = ONE
    for place, line in solved:
        out[place] = reduced(-line[free], line[place])
    return out
