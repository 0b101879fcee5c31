import unittest
from random import Random

from barredrows.ahead import blind_ring, is_blind_ring, look_ahead
from barredrows.alike import parting_text, write_same
from barredrows.coders import Coder, fits, misfit
from barredrows.errors import InvalidClaim, LimitError
from barredrows.exact import has_weights, paper
from barredrows.judge import KINDS, certificate_of, is_certificate, is_claim
from barredrows.judging import clash, loses_nothing
from barredrows.least import fallings, least_weight
from barredrows.media import Medium
from barredrows.papers import Loads, Rate, Weights
from barredrows.pieces import Pieces
from barredrows.windows import endless_runs, window
from tests.helpers import NO_INTEGERS, OTHERS, Thing, check_error, kinds
from tests.test_ahead import BLIND, LATE, ONE_ONE, ring_of
from tests.test_alike import DOUBLE, like_coder
from tests.test_coders import NO_CODERS, PAIR, followed, random_coders
from tests.test_judging import LOSING, fitting_coders
from tests.test_media import random_media
from tests.test_papers import NO_RATES, RATES
from tests.test_windows import RUNS, TURNING

BB = Medium.barring(2, "bb")
SUMS = Medium.sums(1, -1, low=-1, high=1)
TWO_THREE = Rate(2, 3)
EVEN = Pieces.of(Weights(BB, TWO_THREE, [2, 1])).evened().coder()
CLAIMS = (("weights", BB, TWO_THREE), ("loads", BB, Rate(3, 4)), ("states", BB, TWO_THREE, 2), ("fits", SUMS, PAIR),
          ("misfit", BB, PAIR), ("blind", BLIND), ("endless", TURNING), ("clash", LOSING), ("alike", DOUBLE, PAIR),
          ("parted", LATE, BLIND))
FALSE_CLAIMS = (("weights", BB, Rate(3, 4)), ("loads", BB, TWO_THREE), ("states", BB, TWO_THREE, 3),
                ("fits", BB, PAIR), ("misfit", SUMS, PAIR), ("blind", LATE), ("endless", PAIR), ("clash", LATE),
                ("alike", LATE, BLIND), ("parted", DOUBLE, PAIR))


def is_plain_carry(medium, coder, value):
    """Whether lists are a carry, by walking the medium's table."""
    place = medium.after(coder.lead)
    if place is None or place not in value[0] or any(sorted(set(places)) != list(places) for places in value):
        return False
    return all(medium.after(block, at) is not None and medium.after(block, at) in value[to]
               for entries, places in zip(coder.codes(), value) for at in places for block, to in entries)


def is_plain_relation(one, other, value):
    if one.lead != other.lead or (0, 0) not in value or sorted(set(value)) != list(value):
        return False
    return all(first[0] == second[0] and (first[1], second[1]) in value for state, beside in value
               for first, second in zip(one.codes()[state], other.codes()[beside]))


class Claims(unittest.TestCase):
    def test_kinds(self):
        self.assertEqual(KINDS, ("weights", "loads", "states", "fits", "misfit", "blind", "endless", "clash", "alike",
                                 "parted"))
        self.assertEqual([claim[0] for claim in CLAIMS], list(KINDS))
        self.assertEqual([claim[0] for claim in FALSE_CLAIMS], list(KINDS))

    def test_is_claim(self):
        for claim in (*CLAIMS, *FALSE_CLAIMS):
            self.assertIs(is_claim(claim), True)
            self.assertIs(is_claim(value=claim), True)
        for many in (1, 2, 64, 65):
            self.assertIs(is_claim(("states", BB, TWO_THREE, many)), True)

    def check_no_claim(self, value):
        self.assertIs(is_claim(value), False, value)
        check_error(self, InvalidClaim, certificate_of, value, value=value)
        check_error(self, InvalidClaim, is_certificate, value, None, value=value)

    def test_no_claims(self):
        for value in (*OTHERS, "weights", ("weights",), ("blind",), (PAIR,), ("", PAIR), ("Blind", PAIR), (None, PAIR),
                      (0, PAIR), ([], PAIR), ({}, PAIR), (("blind",), PAIR), (KINDS, PAIR), ("looks", PAIR),
                      (b"blind", PAIR), (Thing(), PAIR)):
            self.check_no_claim(value)
        for claim in CLAIMS:
            for value in (list(claim), claim[:-1], (*claim, None), (*claim, claim[-1]), claim[1:], claim[::-1],
                          claim[0]):
                self.check_no_claim(value)

    def test_wrong_in_one_place(self):
        media = (*OTHERS, PAIR, TWO_THREE, BB.table())
        coders = (*NO_CODERS, TWO_THREE)
        for value in media:
            for kind, *rest in CLAIMS[:5]:
                self.check_no_claim((kind, value, *rest[1:]))
        for value in NO_RATES:
            for kind, medium, *rest in CLAIMS[:3]:
                self.check_no_claim((kind, medium, value, *rest[1:]))
        for value in (*NO_INTEGERS, 0, -1, 66, 10 ** 30):
            self.check_no_claim(("states", BB, TWO_THREE, value))
        for value in coders:
            for kind in ("fits", "misfit"):
                self.check_no_claim((kind, BB, value))
            for kind in ("blind", "endless", "clash"):
                self.check_no_claim((kind, value))
            for kind in ("alike", "parted"):
                self.check_no_claim((kind, PAIR, value))
                self.check_no_claim((kind, value, PAIR))
        for kind in ("alike", "parted"):
            self.check_no_claim((kind, PAIR, LATE))
            self.check_no_claim((kind, EVEN, PAIR))

    def test_most_states(self):
        few, more = ring_of(64), ring_of(65)
        for kind in ("blind", "endless", "clash"):
            self.assertIs(is_claim((kind, few)), True)
            self.assertIs(is_certificate((kind, few), certificate_of((kind, few))), True)
            self.check_no_claim((kind, more))
        # The other claims have no such limit.
        for claim in (("fits", BB, more), ("alike", more, few)):
            self.assertIs(is_claim(claim), True)
            self.assertIs(is_certificate(claim, certificate_of(claim)), True)
        for claim in (("misfit", BB, more), ("parted", few, more)):
            self.assertIsNone(certificate_of(claim))

    def test_true_ones_and_others(self):
        for claim in CLAIMS:
            found = certificate_of(claim=claim)
            self.assertIsNotNone(found)
            self.assertIs(is_certificate(value=found, claim=claim), True)
            for other in (*OTHERS, Thing(), 10 ** 30, -1, "", "ab"):
                self.assertIs(is_certificate(claim, other), False)
        for claim in FALSE_CLAIMS:
            self.assertIsNone(certificate_of(claim))
            for value in (*OTHERS, *[certificate_of(other) for other in CLAIMS]):
                self.assertIs(is_certificate(claim, value), False, (claim, value))

    def test_certificates_of_other_claims(self):
        for claim in CLAIMS:
            for other in CLAIMS:
                if claim[0] != other[0]:
                    # The text 0 1 shows both a misfit and that two coders are parted.
                    told = {claim[0], other[0]} == {"misfit", "parted"}
                    self.assertIs(is_certificate(claim, certificate_of(other)), told)


class Papers(unittest.TestCase):
    def test_papers_and_declines(self):
        random = Random(901)
        met = {}
        for _, medium in random_media(902, 80):
            rate = random.choice([rate for rate in RATES if rate.q <= 4])
            weighty = has_weights(medium, rate)
            claims = [("weights", medium, rate), ("loads", medium, rate)]
            found = [certificate_of(claim) for claim in claims]
            self.assertEqual([told is not None for told in found], [weighty, not weighty])
            for claim, told in zip(claims, found):
                if told is not None:
                    self.assertIs(told.__class__, Weights if weighty else Loads)
                    self.assertIs(is_certificate(claim, told), True)
                    self.assertIs(is_certificate(claim, told * 3), True)
                    self.assertIs(is_certificate(claim, told.numbers()), False)
                    self.assertIs(is_certificate((claim[0], medium, Rate(7 - rate.p, rate.q)), told), False)
                    self.assertIs(is_certificate((claims[weighty][0], medium, rate), told), False)
                    self.assertIs(is_certificate((claim[0], Medium.barring(4, "cdc"), rate), told), False)
            met[weighty] = met.get(weighty, 0) + 1
            self.check_states(medium, rate, weighty, met)
        self.assertGreater(min(met.values()), 10)

    def check_states(self, medium, rate, weighty, met):
        try:
            least = least_weight(medium, rate) if weighty else 66
        except LimitError:
            least = 65
        for many in {1, 2, 3, least, least + 1, 65}:
            if many > 65:
                continue
            claim = ("states", medium, rate, many)
            found = certificate_of(claim)
            self.assertIs(found is not None, many <= least)
            met[many <= least, "states"] = met.get((many <= least, "states"), 0) + 1
            if found is not None:
                self.assertIs(is_certificate(claim, found), True)
                self.assertIs(is_certificate(claim, tuple([tuple(numbers) for numbers in found])), True)
                self.assertEqual(kinds(found), [list] + [list] * len(found))
                for wrong in ([], found[:-1], [*found[:-1], None], found[0], [numbers[:-1] for numbers in found],
                              [[True if number == 1 else number for number in numbers] for numbers in found[:-1]]):
                    self.assertIs(is_certificate(claim, wrong), wrong == found, wrong)
            else:
                self.assertIs(is_certificate(claim, fallings(medium, rate, many - 1)), False)

    def test_states(self):
        claim = ("states", BB, TWO_THREE, 2)
        yes = [[[1, 1], [1, 0], [0, 0]], [[1, 1], [1, 1], [1, 0], [0, 0]], ([1, 1], (1, 0), [0, 0], [0, 0])]
        no = [[[1, 1], [0, 0]], [[1, 1], [1, 0]], [[1, 0], [0, 0]], [[2, 2], [1, 0], [0, 0]],
              [[1, 1], [True, 0], [0, 0]],
              [[1, 1], [1, 0], [0, False]], [[1, 1], [1, 0], [0, 1], [0, 0]], [[1, 1], [1, 0, 0], [0, 0]], [[1, 1]]]
        self.assertEqual([is_certificate(claim, value) for value in yes + no], [True] * len(yes) + [False] * len(no))
        # With one state there is nothing to show: a decline from 0.
        first = ("states", BB, TWO_THREE, 1)
        self.assertEqual([is_certificate(first, certificate_of(first)), is_certificate(first, [[0, 0]]),
                          is_certificate(first, [[1, 1], [0, 0]])], [True, True, False])
        last = ("states", BB, Rate(3, 4), 65)
        found = certificate_of(last)
        self.assertEqual([found[0], found[-1], is_certificate(last, found)], [[64, 64], [0, 0], True])


class Carries(unittest.TestCase):
    def test_fits_and_misfits(self):
        met = {True: 0, False: 0, "wrong": 0, "right": 0}
        random = Random(903)
        cases = list(fitting_coders(904, 60))
        coders = [coder for _, coder in cases[:15]]
        cases += [(medium, coder) for _, medium in random_media(905, 40) for coder in random.sample(coders, 4)]
        for medium, coder in cases:
            claim, other = ("fits", medium, coder), ("misfit", medium, coder)
            carry, text = certificate_of(claim), certificate_of(other)
            told = fits(medium, coder)
            self.assertEqual([carry is not None, text is not None], [told, not told])
            met[told] += 1
            if told:
                self.check_carry(medium, coder, carry, random, met)
            else:
                self.assertEqual(text, misfit(medium, coder))
                self.check_misfit(medium, coder, text, random)
        self.assertGreater(min(met.values()), 40)

    def check_carry(self, medium, coder, carry, random, met):
        claim = ("fits", medium, coder)
        self.assertTrue(is_plain_carry(medium, coder, carry))
        self.assertIs(is_certificate(claim, carry), True)
        self.assertIs(is_certificate(claim, tuple([tuple(places) for places in carry])), True)
        self.assertEqual(kinds(carry), [list] + [list] * len(coder))
        self.assertEqual(len({id(places) for places in carry}), len(carry))
        for _ in range(4):
            value = [list(places) for places in carry]
            state, place = random.randrange(len(coder)), random.randrange(len(medium))
            value[state] = sorted(set(value[state]) ^ {place})
            told = is_plain_carry(medium, coder, value)
            self.assertIs(is_certificate(claim, value), told)
            met["right" if told else "wrong"] += 1

    def check_misfit(self, medium, coder, text, random):
        claim = ("misfit", medium, coder)
        self.assertIs(is_certificate(claim, text), True)
        self.assertIs(is_certificate(claim, tuple(text)), True)
        self.assertIs(is_certificate(claim, text + [0]), True)
        for _ in range(4):
            value = [random.randrange(coder.rate.size) for _ in range(random.randrange(4))]
            row = coder.lead + "".join(followed(coder.codes(), value)[0])
            self.assertIs(is_certificate(claim, value), row not in medium)

    def test_carries(self):
        claim = ("fits", SUMS, PAIR)
        self.assertEqual([is_certificate(claim, value) for value in ([[0]], ((0,),), [(0,)])], [True] * 3)
        for value in ([[]], [[0, 0]], [[0, 1]], [[1, 0]], [[0], [0]], [], [0], [[False]], [[3]], [[-1]], [[0, 3]],
                      [[0, 10 ** 30]],
                      [["0"]], [{0}], [{0: 0}], "0", {0: [0]}, [[None]], [[0], []], [[0, None]], [None]):
            self.assertIs(is_certificate(claim, value), False, value)
        free = Medium(2, [{"a": 1, "b": 0}, {"a": 0}])
        coder = Coder(Rate(1, 2), [[("aa", 0), ("bb", 1)], [("bb", 0), ("aa", 1)]])
        claim = ("fits", free, coder)
        self.assertEqual(certificate_of(claim), [[0], [0]])
        # More states may be carried, if all can go on; here b cannot be walked from the state 1.
        self.assertIs(is_certificate(claim, [[0, 1], [0]]), False)
        self.assertIs(is_certificate(("fits", Medium.free(2), coder), [[0], [0]]), True)
        more = Medium(3, [{"a": 1, "b": 2}, {"a": 0, "b": 0, "c": 1}, {"a": 0, "b": 0}])
        coder = Coder(ONE_ONE, [[("a", 0), ("b", 0)]])
        self.assertEqual(certificate_of(("fits", more, coder)), [[0, 1, 2]])
        self.assertIs(is_certificate(("fits", more, coder), [[0, 1]]), False)
        # A lead that is not allowed, and one to another state.
        barred = Coder(ONE_ONE, coder.codes(), "c")
        self.assertIs(is_certificate(("fits", more, barred), [[0, 1, 2]]), False)
        self.assertIs(is_certificate(("fits", BB, Coder(ONE_ONE, [[("a", 0), ("a", 0)]], "b")), [[0]]), False)
        self.assertIs(is_certificate(("fits", BB, Coder(ONE_ONE, [[("a", 0), ("a", 0)]], "b")), [[0, 1]]), True)

    def test_misfits(self):
        claim = ("misfit", BB, PAIR)
        yes = [[0, 1], (0, 1), [1, 0, 1], [0, 1] * 300]
        no = [[], [0], [1], [0, 0], [1, 0], [0, 2], [0, True], [False, 1], [0, "1"], "01", {0: 1}, None, 0,
              [0, 1, None]]
        self.assertEqual([is_certificate(claim, value) for value in yes + no], [True] * len(yes) + [False] * len(no))
        barred = ("misfit", BB, Coder(Rate(1, 2), PAIR.codes(), "bb"))
        self.assertEqual([certificate_of(barred), is_certificate(barred, []), is_certificate(barred, [0]),
                          is_certificate(barred, [2])], [[], True, True, False])


class OfCoders(unittest.TestCase):
    def test_judged_coders(self):
        met = {}
        for _, _, coder in random_coders(906, 200):
            for kind, told, found in (("blind", look_ahead(coder) is None, blind_ring(coder)),
                                      ("endless", window(coder) is None, endless_runs(coder)),
                                      ("clash", not loses_nothing(coder), clash(coder))):
                claim = (kind, coder)
                certificate = certificate_of(claim)
                self.assertIs(certificate is not None, told)
                self.assertIs(is_certificate(claim, certificate), told)
                self.assertIs(is_certificate(claim, found), told)
                if told:
                    self.assertIs(is_certificate(claim, list(found)), False)
                    self.assertIs(is_certificate(claim, found[:-1]), False)
                met[kind, told] = met.get((kind, told), 0) + 1
        self.assertGreater(min(met.values()), 10)
        self.assertEqual(len(met), 6)

    def test_some(self):
        self.assertIs(is_certificate(("endless", TURNING), RUNS), True)
        self.assertIs(is_certificate(("clash", LOSING), ([0, 0], (1, 0))), True)
        self.assertIs(is_certificate(("clash", LOSING), ([0, 0], (1, 1))), False)
        ring = (0, [0], [1], [0], [0])
        self.assertEqual([is_certificate(("blind", BLIND), ring), is_blind_ring(BLIND, ring)], [True, True])

    def test_relations(self):
        met = {True: 0, False: 0, "wrong": 0, "right": 0}
        for random, _, coder in random_coders(907, 200):
            other = like_coder(coder, random, 2)
            if random.randrange(3) == 0:
                codes = other.codes()
                codes[random.randrange(len(codes))][0] = codes[0][-1]
                other = Coder(coder.rate, codes, coder.lead)
            told = write_same(coder, other)
            claim = ("alike", coder, other)
            found = certificate_of(claim)
            self.assertIs(found is not None, told)
            met[told] += 1
            text = certificate_of(("parted", coder, other))
            self.assertEqual(text, parting_text(coder, other))
            if told:
                self.check_relation(coder, other, found, random, met)
            else:
                self.assertIs(is_certificate(("parted", coder, other), text), True)
                self.assertIs(is_certificate(("parted", coder, other), (*text, 0)), True)
                self.assertIs(is_certificate(("parted", coder, other), text[:-1]), False)
        self.assertGreater(min(met[True], met[False], met["wrong"]), 30)
        self.assertGreater(met["right"], 0)

    def check_relation(self, one, other, found, random, met):
        claim = ("alike", one, other)
        self.assertTrue(is_plain_relation(one, other, found))
        self.assertIs(is_certificate(claim, found), True)
        self.assertIs(is_certificate(claim, tuple(found)), True)
        self.assertEqual(kinds(found), [list] + [tuple] * len(found))
        for _ in range(4):
            pair = (random.randrange(len(one)), random.randrange(len(other)))
            value = sorted(set(found) ^ {pair})
            told = is_plain_relation(one, other, value)
            self.assertIs(is_certificate(claim, value), told)
            met["right" if told else "wrong"] += 1

    def test_some_relations(self):
        claim = ("alike", DOUBLE, PAIR)
        self.assertEqual(certificate_of(claim), [(0, 0), (1, 0)])
        for value in ([(0, 0), (1, 0)], ((0, 0), (1, 0))):
            self.assertIs(is_certificate(claim, value), True)
        for value in ([], [(0, 0)], [(1, 0)], [(1, 0), (0, 0)], [(0, 0), (0, 0), (1, 0)], [(0, 0), (1, 0), (1, 0)],
                      [[0, 0], [1, 0]], [(0, 0), [1, 0]], [(0, 0), (True, 0)], [(False, 0), (1, 0)],
                      [(0, 0), (1, False)],
                      [(0, 0), (1, 1)], [(0, 0), (2, 0)], [(0, 0), (1, -1)], [(0, 0), (1,)], [(0, 0), (1, 0, 0)],
                      [(0, 0), None], [(0, 0), ("1", 0)], {(0, 0): 0, (1, 0): 0}, {(0, 0), (1, 0)}, None, "00",
                      [(0, 0), (1, 0), None], [(0, 0), (1, None)]):
            self.assertIs(is_certificate(claim, value), False, value)
        # There may be further pairs that are kept.
        three = Coder(ONE_ONE, [[("a", 1), ("b", 2)], [("a", 1), ("b", 2)], [("a", 2), ("b", 1)]])
        one = Coder(ONE_ONE, [[("a", 0), ("b", 0)]])
        self.assertEqual(certificate_of(("alike", three, three)), [(0, 0), (1, 1), (2, 2)])
        for more in ([(0, 0), (1, 1), (1, 2), (2, 1), (2, 2)], [(0, 0), (0, 1), (1, 1), (2, 2)]):
            self.assertIs(is_certificate(("alike", three, three), more), True)
        self.assertIs(is_certificate(("alike", three, three), [(0, 0), (1, 1), (1, 2), (2, 2)]), False)
        self.assertIs(is_certificate(("alike", three, one), [(0, 0), (1, 0), (2, 0)]), True)
        # The leads are the same, too.
        led = Coder(ONE_ONE, one.codes(), "a")
        self.assertEqual([certificate_of(("alike", one, led)), certificate_of(("parted", one, led))], [None, []])
        self.assertIs(is_certificate(("alike", one, led), [(0, 0)]), False)
        self.assertEqual([is_certificate(("parted", one, led), []), is_certificate(("parted", one, one), [])],
                         [True, False])

    def test_texts_that_part(self):
        claim = ("parted", LATE, BLIND)
        yes = [[0, 1], (0, 1), [0, 1, 0], [1, 1] * 300]
        no = [[], [0], [1], [0, 2], [0, True], [0, "1"], "01", None, {0: 1}, [0, 1, -1]]
        self.assertEqual([is_certificate(claim, value) for value in yes + no], [True] * len(yes) + [False] * len(no))

    def test_certificates_are_new(self):
        for claim in (("states", BB, TWO_THREE, 2), ("fits", SUMS, PAIR), ("misfit", BB, PAIR),
                      ("parted", LATE, BLIND)):
            certificate_of(claim).clear()
            self.assertTrue(is_certificate(claim, certificate_of(claim)))
        certificate_of(("fits", SUMS, PAIR))[0].append(2)
        self.assertEqual(certificate_of(("fits", SUMS, PAIR)), [[0]])
        self.assertTrue(is_certificate(("weights", BB, TWO_THREE), paper(BB, TWO_THREE)))
