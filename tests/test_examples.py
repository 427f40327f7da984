"""The document's examples, as far as they use only what is there, with the answers that it shows."""

import doctest
import unittest

# Where the document calls what is not there yet, its shown answer stands in its place.
EXAMPLES = """
>>> from bandsplits.rows import added, alternated, common_factor, even_part, is_row, later, multiplied, number_at, odd_part, quotient, row_of, turned_round, woven
>>> from bandsplits.splitters import delay_of, determinant_of, join, split, splitter_with, table_of
>>> nil, half, one, two, less = (0, 1), (1, 2), (1, 1), (2, 1), (-1, 1)
>>> unit, sums, gaps, song = (0, (one,)), (0, (one, one)), (0, (one, less)), (0, ((5, 1), (3, 1), (8, 1)))
>>> [row_of(-1, ((0, 1), (1, 2), (0, 1))), is_row((0, ((0, 1),))), number_at(song, 2), added(sums, gaps), multiplied(sums, gaps), later(unit, -2), turned_round(song), alternated(song)]
[(0, ((1, 2),)), False, (8, 1), (0, ((2, 1),)), (0, ((1, 1), (0, 1), (-1, 1))), (-2, ((1, 1),)), (-2, ((8, 1), (3, 1), (5, 1))), (0, ((5, 1), (-3, 1), (8, 1)))]
>>> [even_part(song), odd_part(song), woven(unit, gaps), quotient(multiplied(sums, gaps), sums), quotient(unit, sums), common_factor(multiplied(sums, gaps), multiplied(sums, sums))]
[(0, ((5, 1), (8, 1))), (0, ((3, 1),)), (0, ((1, 1), (1, 1), (0, 1), (-1, 1))), (0, ((1, 1), (-1, 1))), None, (0, ((1, 1), (1, 1)))]
>>> haar = (sums, gaps)
>>> [split(haar, song), table_of(haar)[1], determinant_of(haar), splitter_with(table_of(haar)) == haar]
[((0, ((5, 1), (11, 1))), (0, ((5, 1), (5, 1)))), ((0, ((1, 1),)), (1, ((-1, 1),))), (1, ((-2, 1),)), True]
>>> back = ((-1, ((1, 2), (1, 2))), (-1, ((-1, 2), (1, 2))))
>>> [back, join(back, split(haar, song)) == song, delay_of(haar, back), delay_of(haar, (later(back[0], 3), later(back[1], 3))), delay_of(haar, haar)]
[((-1, ((1, 2), (1, 2))), (-1, ((-1, 2), (1, 2)))), True, 0, 3, None]
>>> thin = ((0, ((1, 1), (0, 1), (1, 1))), (1, ((1, 1),)))
>>> split((sums, sums), (1, ((1, 1), (-1, 1))))
((0, ()), (0, ()))
>>> multiplied(sums, song)
(0, ((5, 1), (8, 1), (11, 1), (8, 1)))
>>> [table_of(thin), determinant_of(thin)]
[(((0, ((1, 1), (1, 1))), (0, ())), ((0, ()), (1, ((1, 1),)))), (1, ((1, 1), (1, 1)))]
>>> stay, lean = (unit, (1, (one, nil, one))), (unit, (1, (one, one)))
>>> [table_of(stay), table_of(lean)]
[(((0, ((1, 1),)), (0, ())), ((0, ()), (1, ((1, 1), (1, 1))))), (((0, ((1, 1),)), (0, ())), ((1, ((1, 1),)), (1, ((1, 1),))))]
>>> means = ((0, (half, half)), (0, (less, one)))
>>> ramp = (0, (one, two, (3, 1), (4, 1)))
>>> split(means, ramp)
((0, ((1, 2), (5, 2), (2, 1))), (0, ((-1, 1), (-1, 1), (4, 1))))
>>> join(((-1, ((1, 1), (1, 1))), (-1, ((1, 2), (-1, 2)))), split(means, ramp)) == ramp
True
"""


class Examples(unittest.TestCase):
    def test_answers(self):
        examples = doctest.DocTestParser().get_doctest(EXAMPLES, {}, "examples", None, None)
        told = []
        outcome = doctest.DocTestRunner(verbose=False).run(examples, out=told.append)
        self.assertEqual((outcome.failed, "".join(told)), (0, ""))
        self.assertEqual(outcome.attempted, EXAMPLES.count(">>> "))


if __name__ == "__main__":
    unittest.main()
