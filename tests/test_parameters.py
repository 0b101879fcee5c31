"""The errors of parameters in all modules: in their sequence, by position and by name."""

import unittest

from barredrows.ahead import blind_ring, blind_texts, is_blind_ring, is_enough, look_ahead
from barredrows.alike import merged, parting_text, write_same
from barredrows.bits import packed, unpacked
from barredrows.coders import Coder, fits, misfit
from barredrows.counts import count, number_of, rows
from barredrows.damage import WindowReader, damaged, spoiled
from barredrows.descriptions import describe
from barredrows.drafts import Draft
from barredrows.errors import (
    InvalidBits,
    InvalidClaim,
    InvalidCoder,
    InvalidCommand,
    InvalidCount,
    InvalidMark,
    InvalidMedium,
    InvalidName,
    InvalidNumber,
    InvalidNumbers,
    InvalidPaper,
    InvalidRate,
    InvalidRow,
    InvalidSharing,
    InvalidSign,
    InvalidSigns,
    InvalidState,
    InvalidTable,
    InvalidText,
    InvalidThing,
)
from barredrows.desk import Desk
from barredrows.exact import has_weights, paper, too_few
from barredrows.judge import certificate_of, is_certificate
from barredrows.judging import clash, derived, is_clash, loses_nothing, still_open
from barredrows.least import fall, fallings, greatest_weights, is_decline, least_weight, needs
from barredrows.marks import clear_rows, join
from barredrows.media import Medium
from barredrows.memory import endless_rows, is_endless, memory
from barredrows.papers import Loads, Rate, Weights
from barredrows.parting import parting
from barredrows.pieces import Pieces
from barredrows.rates import best, profile
from barredrows.readers import Reader, closed, read_closed
from barredrows.sharing import Sharing, shared
from barredrows.ways import parts, ways, ways_from
from barredrows.windows import endless_runs, has_window, is_endless_runs, window
from tests.helpers import NO_INTEGERS, NO_ROWS, OTHERS, Thing, check_error

BB = Medium.barring(2, "bb")
TWO_THREE = Rate(2, 3)
WEIGHTS = Weights(BB, TWO_THREE, [2, 1])
PAIR = Coder(Rate(1, 2), [[("ab", 0), ("ba", 0)]])
EVEN = Pieces.of(WEIGHTS).evened().coder()
NO_LISTS = (None, True, 0, 1, "", "ab", {}, {0: 1}, set(), b"a", object(), Thing())
NO_COUNTS = (*NO_INTEGERS, -1, 5001, 10 ** 30)

# For each kind of parameter a valid value, some wrong ones, the error, and its attribute.
KINDS = {
    "medium": (BB, (*OTHERS, PAIR, BB.table()), InvalidMedium, "value"),
    "rate": (TWO_THREE, (*OTHERS, "2:3", (2, 3)), InvalidRate, "value"),
    "coder": (PAIR, (*OTHERS, BB, PAIR.codes()), InvalidCoder, "value"),
    "weights": (WEIGHTS, (*OTHERS, [2, 1], Loads(BB, Rate(3, 4), [3, 2])), InvalidPaper, "value"),
    "row": ("aba", (*NO_ROWS, "a" * 2001), InvalidRow, "value"),
    "state": (0, (*NO_INTEGERS, -1, 64, 10 ** 30), InvalidState, "value"),
    "text": ([0, 1, 1], (*NO_LISTS, [0] * 1201), InvalidText, "position"),
    "many": (2, (*NO_INTEGERS, 0, 1, 5), InvalidSigns, "value"),
    "count": (2, NO_COUNTS, InvalidCount, "value"),
    "place": (2, NO_COUNTS, InvalidNumber, "value"),
    "sign": ("b", (*NO_ROWS, "", "ab"), InvalidSign, "value"),
    "mark": ("aaa", (*NO_ROWS, "", "a" * 9), InvalidMark, "value"),
    "bits": ([0, 1], NO_LISTS, InvalidBits, "position"),
    "numbers": ([2, 1], NO_LISTS, InvalidNumbers, "position"),
    "table": ([{"a": 0}], (*NO_LISTS, []), InvalidTable, "position"),
    "codes": (EVEN.codes(), (*NO_LISTS, []), InvalidTable, "position"),
    "shares": (shared(WEIGHTS).shares(), (*NO_LISTS, []), InvalidSharing, "position"),
    "claim": (("weights", BB, TWO_THREE), (*OTHERS, ("weights", BB)), InvalidClaim, "value"),
    "command": ("free m 2", (*OTHERS, "free m"), InvalidCommand, "value"),
    "name": ("m", (*OTHERS[:-4], "ab\n", "", "abcdefghi", "A"), InvalidName, "value"),
    "thing": (BB, (None, True, 0, "a", [], [64], object()), InvalidThing, "value"),
    "any": (None, (), None, None),
}
# Each call with its parameters, in their sequence; those without an error of their own are of the kind any.
CALLS = (
    (Medium, "many table"), (Medium.free, "many"), (describe, "medium"), (count, "medium length:count state"),
    (number_of, "medium row"), (ways, "medium length:count"), (ways_from, "medium length:count state"),
    (parts, "medium length:count"), (parting, "one:medium other:medium"), (memory, "medium"), (endless_rows, "medium"),
    (is_endless, "medium value:any"), (Weights, "medium rate numbers"), (paper, "medium rate"),
    (has_weights, "medium rate"), (too_few, "medium rate more:count"), (fall, "medium rate numbers"),
    (fallings, "medium rate most:count"), (greatest_weights, "medium rate most:count"), (least_weight, "medium rate"),
    (is_decline, "medium rate most:count value:any"), (needs, "medium rate"), (best, "medium length:count"),
    (profile, "medium"), (Coder, "rate codes lead:row"), (misfit, "medium coder"), (fits, "medium coder"),
    (PAIR.end, "text state"), (PAIR.blocks, "text state"), (PAIR, "text"), (shared, "weights"),
    (Sharing, "weights shares"), (look_ahead, "coder"), (is_enough, "coder ahead:count"),
    (blind_texts, "coder ahead:count"), (blind_ring, "coder"), (is_blind_ring, "coder value:any"),
    (Pieces.of, "weights"),
    (closed, "coder text"), (read_closed, "coder value:any"), (Reader, "coder"),
    (has_window, "coder behind:count ahead:count"), (window, "coder"), (endless_runs, "coder"),
    (is_endless_runs, "coder value:any"), (WindowReader, "coder"), (spoiled, "coder text place sign"),
    (loses_nothing, "coder"), (clash, "coder"), (is_clash, "coder value:any"), (still_open, "coder row"),
    (parting_text, "one:coder other:coder"), (write_same, "one:coder other:coder"), (merged, "coder"),
    (clear_rows, "medium mark"), (join, "medium mark row"), (packed, "rate bits"), (unpacked, "rate text"),
    (certificate_of, "claim"), (is_certificate, "claim value:any"), (Draft, "many"), (BB.after, "row state"),
    (BB.least_row, "state"), (BB.is_within, "other:medium"),
)
# What cannot be called twice with the same values, and what needs other values to be called without an error.
FRESH = ((lambda **named: Desk().do(**named), "command"), (lambda **named: Desk().put(**named), "name thing"))
OTHER_VALUES = ((derived, "medium coder"), (lambda **named: damaged(["aba"], **named), "place sign"))


def parameters(told):
    """The names and the kinds of the parameters."""
    return [tuple(part.split(":")) if ":" in part else (part, part) for part in told.split(" ")]


class Parameters(unittest.TestCase):
    def test_the_first_wrong_one_is_told(self):
        checks = 0
        for call, told in CALLS + FRESH + OTHER_VALUES:
            named = parameters(told)
            for at, (name, kind) in enumerate(named):
                _, wrong, error, attribute = KINDS[kind]
                for value in wrong:
                    expected = {attribute: None if attribute == "position" else value}
                    good = {key: KINDS[other][0] for key, other in named}
                    # All parameters behind the wrong one are wrong as well, or none of them.
                    worse = {key: KINDS[other][1][0] for key, other in named[at + 1:] if KINDS[other][1]}
                    for more in ({}, worse):
                        values = {**good, **more, name: value}
                        check_error(self, error, lambda: call(**values), **expected)
                        checks += 1
                        if (call, told) in CALLS:
                            check_error(self, error, lambda: call(*[values[key] for key, _ in named]), **expected)
        self.assertGreater(checks, 2000)

    def test_by_position_and_by_name(self):
        for call, told in CALLS:
            named = parameters(told)
            values = [KINDS[kind][0] for _, kind in named]
            one = call(*values)
            other = call(**dict(reversed([(name, value) for (name, _), value in zip(named, values)])))
            for found in (one, other):
                self.assertIs(found.__class__, one.__class__)
            if one.__class__.__eq__ is not object.__eq__:
                self.assertTrue(one == other)

    def test_new_lists_each_time(self):
        for call, told in CALLS:
            values = [KINDS[kind][0] for _, kind in parameters(told)]
            one, other = call(*values), call(*values)
            seen = lists_in(one) + lists_in(other)
            self.assertEqual(len({id(found) for found in seen}), len(seen), told)
            # Nor are they parts of what was passed.
            passed = {id(found) for value in values for found in lists_in(value)}
            self.assertFalse(passed & {id(found) for found in seen})

    def test_what_was_passed_stays(self):
        for call, told in CALLS:
            values = [KINDS[kind][0] for _, kind in parameters(told)]
            before = repr([value for value in values if not hasattr(value, "codes")])
            call(*values)
            self.assertEqual(repr([value for value in values if not hasattr(value, "codes")]), before)
        self.assertEqual(PAIR.codes(), [[("ab", 0), ("ba", 0)]])

    def test_tuples_for_lists(self):
        for call, told in CALLS:
            values = [KINDS[kind][0] for _, kind in parameters(told)]
            if any(isinstance(value, list) for value in values):
                one, other = call(*values), call(*[with_tuples(value) for value in values])
                if one.__class__.__eq__ is not object.__eq__:
                    self.assertTrue(one == other)

    def test_generators(self):
        for call, told in ((rows, "medium length:count state"), (PAIR.spelled, "text")):
            named = parameters(told)
            for at, (name, kind) in enumerate(named):
                _, wrong, error, attribute = KINDS[kind]
                for value in wrong:
                    values = {key: KINDS[other][0] for key, other in named[:at]}
                    values.update({key: KINDS[other][1][0] for key, other in named[at + 1:]})
                    expected = {attribute: None if attribute == "position" else value}
                    check_error(self, error, lambda: next(iter(call(**values, **{name: value}))), **expected)


def lists_in(value):
    """All lists and dicts in a value, itself included."""
    if isinstance(value, dict):
        return [value] + [found for part in value.values() for found in lists_in(part)]
    if isinstance(value, (list, tuple)):
        own = [value] if isinstance(value, list) else []
        return own + [found for part in value for found in lists_in(part)]
    return []


def with_tuples(value):
    """The value with tuples in the place of all lists."""
    if isinstance(value, (list, tuple)):
        return tuple([with_tuples(part) for part in value])
    return value
