"""Point 39: which claim is told with which paper, and what the checker refuses."""

import unittest
from fractions import Fraction

from bandsplits.checker import accepts
from bandsplits.losses import channel_values, lost_endless, value_at
from samples import (
    BROKEN_LADDERS, EVEN_SCALE, GAPS_ROW, HAAR_PAIR, HUGE, NIL, NOUGHT, ONE, PLAIN, STRANGE, SUMS_ROW, UNIT,
    WRONG_ENDLESS, WRONG_FRACTIONS, WRONG_LADDERS, WRONG_MASKS, WRONG_PAIRS, WRONG_ROWS, WRONG_TABLES, WRONG_TURNS,
    WRONG_WHOLES, Maker, Touchy, nested, pair_of, product, row_of_numbers, shifted, spread, times,
)

TWO, FOUR, HALF, LESS = (2, 1), (4, 1), (1, 2), (-1, 1)
HAAR, HAAR_BACK = HAAR_PAIR, ((-1, (HALF, HALF)), (-1, ((-1, 2), HALF)))
HAAR_TURNS = (0, ((1, -1),), ((ONE, ONE), (ONE, LESS)))
THIN = ((0, (ONE, NIL, ONE)), (1, (ONE,)))
STAY = (UNIT, (1, (ONE, NIL, ONE)))
LEAN = (UNIT, (1, (ONE, ONE)))
FLATTENED = (SUMS_ROW, SUMS_ROW)
NOTHING = (NOUGHT, NOUGHT)
STEPS = (("high", (0, (LESS,))), ("low", (0, (HALF,))))
LADDER = (STEPS, EVEN_SCALE)
BARRED = (0, (ONE, NIL, ONE))
BOX, CLEFT = (0, (ONE, ONE)), (0, (ONE, NIL, NIL, ONE))
ODD_UNIT = (1, (ONE,))
FAR = (2, ((5, 1),))

# Claims that are so, with papers that are for them, and with values that are none.
SO = [
    (("nothing lost", HAAR), [HAAR_BACK], [
        HAAR, tuple(shifted(row, 1) for row in HAAR_BACK), tuple(times(2, row) for row in HAAR_BACK), HAAR_BACK[::-1],
        (HAAR_BACK[0], NOUGHT), NOTHING, HAAR_TURNS,
    ]),
    (("nothing lost", (UNIT, ODD_UNIT)), [(UNIT, (-1, (ONE,)))], [(UNIT, ODD_UNIT), ((-1, (ONE,)), UNIT)]),
    (("endless lost", THIN), [
        ((ONE, NIL, ONE), (ONE, NIL)), ((ONE, NIL, ONE), ((-7, 3), NIL)),
        # Rules that more endless rows follow, with and without odd powers.
        ((ONE, LESS, ONE, LESS), (ONE, NIL, LESS)), ((TWO, ONE, TWO, ONE), (ONE, NIL, LESS)),
        ((ONE, NIL, NIL, NIL, LESS), (ONE, NIL, LESS, NIL)), ((HALF, NIL, ONE, NIL, HALF), (ONE, NIL, LESS, NIL)),
    ], [
        ((ONE, NIL, ONE), (NIL, NIL)), ((ONE, NIL, ONE), (NIL, ONE)), ((ONE, NIL, ONE), (ONE, ONE)),
        ((ONE, LESS), (ONE,)), ((ONE, ONE), (ONE,)), ((ONE, LESS, ONE, LESS), (ONE, NIL, ONE)),
        ((ONE, LESS, ONE, LESS), (ONE, ONE, ONE)), ((ONE, NIL, LESS), (ONE, NIL)), ((ONE, NIL), (ONE,)),
        ((ONE, NIL, NIL, NIL, LESS), (ONE, NIL, ONE, NIL)), ((ONE, NIL, NIL, NIL, LESS), (NIL, NIL, NIL, NIL)),
        ((HALF, NIL, ONE, NIL, HALF), (ONE, NIL, LESS, ONE)), ((ONE, NIL, ONE), (ONE,)), UNIT,
    ]),
    # With the word `finite` endless rows are lost, too.
    (("endless lost", FLATTENED), [((ONE, ONE), (ONE,)), ((ONE, NIL, LESS), (ONE, LESS))], [
        ((ONE, LESS), (ONE,)), ((ONE, NIL, LESS), (ONE, ONE)), ((ONE, ONE), (NIL,)), (1, (ONE, LESS)),
    ]),
    (("endless lost", NOTHING), [((ONE, LESS), (ONE,)), ((ONE, (-7, 1)), ((1, HUGE),))], [((ONE, LESS), (NIL,))]),
    (("finite lost", FLATTENED), [(1, (ONE, LESS)), (-3, (HALF, (-1, 2))), (1, (ONE, LESS, NIL, NIL, TWO, (-2, 1)))], [
        NOUGHT, UNIT, (0, (ONE, LESS)), (1, (ONE, ONE)), (1, (ONE, LESS, ONE)), ((ONE, ONE), (ONE,)),
    ]),
    (("finite lost", NOTHING), [UNIT, SUMS_ROW], [NOUGHT]),
    (("between", HAAR, TWO, TWO), [()], [((),), NOUGHT, ONE, NIL, None]),
    (("between", STAY, NIL, FOUR), [()], [ONE, NIL]),
    (("between", LEAN, (381, 1000), (2619, 1000)), [()], [NIL, TWO]),
    (("not between", HAAR, (1, 1), (3, 2)), [NIL, TWO, (-2, 1), (1, HUGE)], [(3, 1), (-3, 1), (), (HUGE, 1)]),
    # 2 + t is above 3 from 1 on; it is 3 at 1 itself.
    (("not between", STAY, NIL, (3, 1)), [TWO, (3, 2), (HUGE + 1, HUGE)], [ONE, NIL, HALF, (HUGE - 1, HUGE), (-2, 1)]),
    (("not between", STAY, HALF, FOUR), [(-2, 1), (-8, 5)], [(-3, 2), NIL, TWO, ()]),
    (("not between", LEAN, HALF, (3, 1)), [NIL, TWO], [()]),
    (("keeper", HAAR), [HAAR_TURNS], [
        (0, ((1, -1),), ((ONE, ONE), (LESS, ONE))), (2, ((1, -1),), HAAR_TURNS[2]), (0, (), HAAR_TURNS[2]),
        (0, ((1, 1),), HAAR_TURNS[2]), (0, ((2, -2),), HAAR_TURNS[2]), (0, ((-1, 1),), HAAR_TURNS[2]), (), HAAR_BACK,
        (0, ((1, -1),), ((TWO, TWO), (TWO, (-2, 1)))),
    ]),
    (("no keeper", THIN), [(UNIT, ODD_UNIT), (UNIT, (0, (ONE, NIL, ONE))), ((0, (ONE, NIL, LESS)), UNIT)], [
        (UNIT, UNIT), (UNIT, FAR), (ODD_UNIT, ODD_UNIT), (NOUGHT, UNIT), (UNIT, NOUGHT), NOTHING, UNIT, (),
    ]),
    (("no keeper", NOTHING), [(UNIT, UNIT), (UNIT, SUMS_ROW)], [(UNIT, NOUGHT), (NOUGHT, UNIT), NOTHING]),
    (("no keeper", FLATTENED), [((1, (ONE, LESS)), (1, (ONE, LESS))), ((1, (ONE, LESS)), UNIT)], [
        (UNIT, UNIT), (UNIT, ODD_UNIT), (UNIT, FAR),
    ]),
    (("partner", SUMS_ROW), [GAPS_ROW, UNIT, ODD_UNIT, (4, ((-7, 2),)), (0, (ONE, NIL, LESS, LESS))], [
        SUMS_ROW, NOUGHT, (1, (ONE, ONE)), (0, (ONE, TWO, FOUR, ONE)), (0, (ONE, NIL, LESS, ONE)), (), None,
    ]),
    (("no partner", BARRED), [SUMS_ROW, (5, ((3, 1), (3, 1)))], [
        UNIT, GAPS_ROW, NOUGHT, (2, (ONE,)), BARRED, (0, (ONE, TWO, ONE)), (),
    ]),
    (("no partner", NOUGHT), [NOUGHT, SUMS_ROW, BARRED], [UNIT, (-7, (HALF,)), ()]),
    (("flat", GAPS_ROW, 1), [()], [((),), NOUGHT, UNIT, GAPS_ROW]),
    (("flat", SUMS_ROW, 0), [()], [UNIT]),
    (("flat", NOUGHT, 8), [()], [NOUGHT]),
    (("not flat", GAPS_ROW, 2), [()], [UNIT]),
    (("not flat", SUMS_ROW, 1), [()], [SUMS_ROW]),
    (("curve", BOX), [()], [((),), UNIT]),
    (("curve", (0, (HALF, ONE, HALF))), [()], [BOX]),
    (("no curve", CLEFT), [()], [UNIT]),
    (("no curve", (0, (ONE, TWO))), [()], [CLEFT]),
    (("telling", UNIT, ODD_UNIT), [()], [HAAR, (HAAR, THIN)]),
    (("not telling", UNIT, FAR), [
        ((UNIT, NOUGHT), (SUMS_ROW, NOUGHT)), (NOTHING, (ODD_UNIT, NOUGHT)), (NOTHING, (NOUGHT, (-3, (ONE, NIL, TWO)))),
    ], [
        ((UNIT, NOUGHT), (UNIT, NOUGHT)), (HAAR, HAAR), (HAAR, THIN), ((UNIT, NOUGHT), (UNIT, UNIT)), (), HAAR,
        ((UNIT, NOUGHT), (NOUGHT, NOUGHT)),
    ]),
    (("not telling", NOUGHT, NOUGHT), [(HAAR, THIN)], [(HAAR, HAAR), (THIN, THIN)]),
    (("never rounded", LADDER, 2), [()], [UNIT, NOUGHT]),
    (("never rounded", LADDER, 2 * HUGE), [()], [UNIT]),
    (("never rounded", ((), EVEN_SCALE), 1), [()], [UNIT]),
    (("rounded", LADDER, 1), [UNIT, ODD_UNIT, (0, (ONE, TWO, (3, 1), FOUR))], [
        (0, (TWO,)), NOUGHT, (0, (TWO, TWO)), (1, (ONE, ONE)), (0, (HALF,)), (0, ((3, 2),)), (),
    ]),
    (("rounded", LADDER, 3), [(0, ((3, 1),)), (1, ((-9, 1),))], [UNIT, (0, ((6, 1),)), (0, (ONE,)), (0, ((3, 1), ONE))]),
    (("rounded", LADDER, HUGE + 1), [(0, ((HUGE + 1, 1),))], [UNIT, (0, ((2 * HUGE + 2, 1),)), (0, ((HUGE, 1),))]),
]

# Claims that are not so, with what could be taken for papers.
NOT_SO = [
    (("nothing lost", THIN), [HAAR, HAAR_BACK, ()]), (("nothing lost", FLATTENED), [HAAR_BACK, NOTHING]),
    (("nothing lost", NOTHING), [NOTHING]), (("endless lost", HAAR), [((ONE, LESS), (ONE,)), ((ONE, LESS), (NIL,))]),
    (("finite lost", HAAR), [UNIT, NOUGHT]), (("finite lost", THIN), [UNIT, NOUGHT, ((ONE, NIL, ONE), (ONE, NIL))]),
    (("between", HAAR, (3, 1), FOUR), [(), NIL]),
    (("between", STAY, NIL, (3, 1)), [(), TWO]), (("not between", HAAR, TWO, TWO), [(), NIL, TWO, (-2, 1)]),
    (("not between", STAY, NIL, FOUR), [NIL, TWO, (-2, 1)]), (("keeper", STAY), [HAAR_TURNS, ()]),
    (("keeper", NOTHING), [(0, (), PLAIN)]), (("no keeper", HAAR), [(UNIT, UNIT), (UNIT, ODD_UNIT), (SUMS_ROW, FAR)]),
    # Rows one of whose parts 1 + z divides, but not the other one.
    (("no partner", (0, (ONE, ONE, ONE))), [SUMS_ROW]), (("no partner", (0, (ONE, ONE, NIL, ONE))), [SUMS_ROW]),
    (("partner", BARRED), [UNIT, ODD_UNIT, BARRED, NOUGHT]), (("partner", NOUGHT), [UNIT, NOUGHT, SUMS_ROW]),
    (("no partner", SUMS_ROW), [UNIT, SUMS_ROW, NOUGHT, (3, (TWO,))]), (("flat", GAPS_ROW, 2), [()]),
    (("flat", UNIT, 1), [()]), (("not flat", GAPS_ROW, 1), [()]), (("not flat", NOUGHT, 8), [()]),
    (("not flat", UNIT, 0), [()]), (("curve", CLEFT), [()]), (("no curve", BOX), [()]),
    (("telling", UNIT, FAR), [()]), (("telling", NOUGHT, UNIT), [()]),
    (("not telling", UNIT, ODD_UNIT), [(HAAR, THIN), (HAAR, HAAR), ((UNIT, NOUGHT), (SUMS_ROW, NOUGHT))]),
    (("never rounded", LADDER, 1), [()]), (("never rounded", LADDER, 3), [()]),
    (("rounded", LADDER, 2), [(0, (TWO,)), (1, (TWO,)), UNIT, (0, (TWO, FOUR))]), (("rounded", ((), EVEN_SCALE), 1), [UNIT]),
]

EXCLUDING = {
    "nothing lost": "endless lost", "between": "not between", "keeper": "no keeper", "partner": "no partner",
    "flat": "not flat", "curve": "no curve", "telling": "not telling", "never rounded": "rounded",
}

PAPERS_OF_ALL_KINDS = [paper for _, right, wrong in SO for paper in right + wrong] + STRANGE


class Papers(unittest.TestCase):
    def test_right_ones(self):
        for claim, right, _ in SO:
            for paper in right:
                with self.subTest(claim=claim, paper=paper):
                    self.assertIs(accepts(claim, paper), True)
                    self.assertIs(accepts(paper=paper, claim=claim), True)

    def test_wrong_ones(self):
        for claim, _, wrong in SO:
            for paper in wrong:
                with self.subTest(claim=claim, paper=paper):
                    self.assertIs(accepts(claim, paper), False)
                    self.assertIs(accepts(paper=paper, claim=claim), False)

    def test_claims_that_are_not_so(self):
        for claim, papers in NOT_SO:
            for paper in papers + PAPERS_OF_ALL_KINDS:
                with self.subTest(claim=claim):
                    self.assertIs(accepts(claim, paper), False)

    def test_of_claims_that_exclude_one_another_one_has_papers(self):
        other_way = {second: first for first, second in EXCLUDING.items()}
        for claim, right, _ in SO:
            if claim[0] == "finite lost":
                others = [("nothing lost",) + claim[1:]]
            elif claim[0] == "nothing lost":
                others = [(word,) + claim[1:] for word in ("endless lost", "finite lost")]
            else:
                others = [({**other_way, **EXCLUDING}[claim[0]],) + claim[1:]]
            for other in others:
                for paper in PAPERS_OF_ALL_KINDS:
                    self.assertIs(accepts(other, paper), False, (other, paper))

    def test_what_is_no_paper_for_any_claim(self):
        for claim, _, _ in SO:
            for wrong in STRANGE:
                if not (isinstance(wrong, tuple) and tuple.__len__(wrong) == 0):
                    self.assertIs(accepts(claim, wrong), False)

    def test_papers_of_the_right_kind_must_be_right(self):
        kinds = {
            "nothing lost": WRONG_PAIRS, "endless lost": WRONG_ENDLESS, "finite lost": WRONG_ROWS,
            "not between": WRONG_FRACTIONS, "keeper": WRONG_TURNS, "no keeper": WRONG_PAIRS, "partner": WRONG_ROWS,
            "no partner": WRONG_ROWS, "not telling": WRONG_TABLES, "rounded": WRONG_ROWS,
        }
        for claim, _, _ in SO:
            for number, wrong in enumerate(kinds.get(claim[0], [])):
                with self.subTest(claim=claim, number=number):
                    self.assertIs(accepts(claim, wrong), False)
            if claim[0] not in kinds:
                for wrong in ([], ((),), 0, "()", None, False, UNIT, NOUGHT, Touchy()):
                    self.assertIs(accepts(claim, wrong), False)


class Claims(unittest.TestCase):
    def refused(self, claim, paper=()):
        self.assertIs(accepts(claim, paper), False)

    def test_what_is_no_claim(self):
        papers = [(), UNIT, NOUGHT, HAAR_BACK, HAAR_TURNS, (UNIT, ODD_UNIT)]
        for wrong in STRANGE + [
            "between", ("between",), ("Between", HAAR, TWO, TWO), ("flat",), (b"flat", GAPS_ROW, 1), ("", HAAR),
            ["flat", GAPS_ROW, 1], ("nothing", HAAR), ("lost", HAAR), ("nothing lost ", HAAR), ("nothing  lost", HAAR),
            ("endless", THIN), ("keeper", HAAR, 2), ("keeper",), (HAAR, "keeper"), (("keeper",), HAAR), (None, HAAR),
            (Touchy(), HAAR), ("keeper", Touchy()), (Touchy(),), ("flat", GAPS_ROW), ("flat", GAPS_ROW, 1, 1),
            ("flat", 1, GAPS_ROW), ("curve",), ("curve", BOX, BOX), ("telling", UNIT), ("telling", UNIT, ODD_UNIT, UNIT),
            ("telling", (UNIT, ODD_UNIT)), ("never rounded", LADDER), ("never rounded", 2, LADDER), nested(14),
            ("never rounded", LADDER, 2, 2), ("partner", SUMS_ROW, GAPS_ROW), ("between", HAAR, (TWO, TWO)),
            ("between", HAAR, TWO), ("between", HAAR, TWO, TWO, TWO), ("no partner",), ("rounded", LADDER),
        ]:
            for paper in papers + [wrong]:
                self.refused(wrong, paper)

    def test_what_a_claim_tells_must_be_right(self):
        for claim, right, _ in SO:
            wrongs = {
                HAAR: WRONG_PAIRS, THIN: WRONG_PAIRS, STAY: WRONG_PAIRS, LEAN: WRONG_PAIRS, FLATTENED: WRONG_PAIRS,
                NOTHING: WRONG_PAIRS, LADDER: WRONG_LADDERS + BROKEN_LADDERS,
            }
            many = WRONG_MASKS if claim[0] in ("curve", "no curve") else wrongs.get(claim[1], WRONG_ROWS)
            for wrong in many:
                for paper in right:
                    self.refused((claim[0], wrong) + claim[2:], paper)

    def test_the_second_row(self):
        for wrong in WRONG_ROWS:
            self.refused(("telling", UNIT, wrong))
            self.refused(("not telling", UNIT, wrong), (NOTHING, (ODD_UNIT, NOUGHT)))

    def test_ends(self):
        for wrong in WRONG_FRACTIONS:
            for claim in (("between", STAY, wrong, FOUR), ("between", STAY, NIL, wrong)):
                self.refused(claim)
            for claim in (("not between", HAAR, wrong, ONE), ("not between", HAAR, NIL, wrong)):
                self.refused(claim, NIL)
        # A low end above the high one is none, though each share is not between them.
        for paper in (NIL, TWO, (-2, 1), ()):
            self.refused(("not between", HAAR, (3, 1), ONE), paper)
            self.refused(("between", HAAR, (3, 1), ONE), paper)

    def test_numbers(self):
        for wrong in WRONG_WHOLES + [-1, 9, HUGE]:
            self.refused(("flat", NOUGHT, wrong))
            self.refused(("not flat", UNIT, wrong))
        for wrong in WRONG_WHOLES + [0, -1, -2, -HUGE]:
            self.refused(("never rounded", LADDER, wrong))
            self.refused(("rounded", LADDER, wrong), UNIT)
        for number in (1, 8):
            self.assertIs(accepts(("flat", NOUGHT, number), ()), True)
            self.assertIs(accepts(("not flat", UNIT, number), ()), True)
        self.assertIs(accepts(("flat", UNIT, 0), ()), True)

    def test_what_may_not_be_touched(self):
        for claim, _, _ in SO:
            self.refused(claim, Touchy())
            self.refused(claim, (Touchy(), Touchy()))
            self.refused(claim, (Touchy(),) * 3)
            self.refused((claim[0],) + (Touchy(),) * (len(claim) - 1))
        deep = ()
        for _ in range(14):
            deep = (deep, deep)
        for claim, _, _ in SO[:6]:
            self.refused((claim[0], deep), deep)


class EndlessPapers(unittest.TestCase):
    def test_as_the_channels_tell(self):
        maker = Maker(351)
        seen = {True: 0, False: 0}
        for _ in range(150):
            splitter = maker.pair(most=4, reach=3)
            if maker.random.random() < 0.5:
                bar = spread(row_of_numbers(0, 1, maker.random.choice((1, -1, 2, -3))))
                splitter = (product(bar, splitter[0]), product(bar, splitter[1]))
            paper = lost_endless(splitter)
            if paper is None:
                continue
            if len(paper[0]) > 9:
                continue
            rule, values = paper
            change = maker.random.randrange(3)
            if change == 1:
                # A rule that more endless rows follow.
                rule = product((0, rule), (0, (ONE, pair_of(maker.random.choice((1, -1, 3))))))[1]
                values = values + (value_at(paper, len(values)),)
            if change == 2:
                place = maker.random.randrange(len(values))
                values = values[:place] + (pair_of(Fraction(*values[place]) + 1),) + values[place + 1:]
            lost = any(number != NIL for number in values) and all(
                channel_values(splitter, (rule, values), place) == (NIL, NIL) for place in range(-12, 13)
            )
            seen[lost] += 1
            with self.subTest(splitter=splitter, rule=rule, values=values):
                self.assertIs(accepts(("endless lost", splitter), (rule, values)), lost)
        self.assertGreater(min(seen.values()), 15)

    def test_long_rules(self):
        maker = Maker(352)
        long_row = lambda: row_of_numbers(-3, *[maker.random.randint(1, 9) for _ in range(24)])
        splitter = (long_row(), long_row())
        paper = lost_endless(splitter)
        self.assertGreater(len(paper[0]), 40)
        self.assertIs(accepts(("endless lost", splitter), paper), True)
        self.assertIs(accepts(("endless lost", (splitter[0], UNIT)), paper), False)


if __name__ == "__main__":
    unittest.main()
