import unittest

from barredrows.drafts import Draft, Trial, tried_draft
from barredrows.errors import (
    InvalidMedium,
    InvalidSign,
    InvalidSigns,
    InvalidState,
    NothingLeft,
    NothingToUndo,
    TooMany,
    UnknownWay,
)
from barredrows.media import Medium
from tests.helpers import NO_INTEGERS, OTHERS, Thing, check_error

BB = Medium.barring(2, "bb")
NO_STATES = (*NO_INTEGERS, -1, 64, 10 ** 30)


def shown(draft):
    """All that a Draft tells of what it is now."""
    ways = [(state, sign, draft[state, sign]) for state in range(64) for sign in "abcd" if (state, sign) in draft]
    return draft.width, len(draft), ways


def history(draft):
    """What a Draft is now and was ahead of each change that can be taken back."""
    draft = draft.copy()
    found = [shown(draft)]
    while True:
        try:
            draft.undo()
        except NothingToUndo:
            return found
        found.append(shown(draft))


def made_of(many, *ways):
    draft = Draft(many)
    for state, sign, to in ways:
        draft[state, sign] = to
    return draft


class Drafts(unittest.TestCase):
    def test_new(self):
        for many in (2, 3, 4):
            self.assertEqual(shown(Draft(many=many)), (many, 0, []))
        for many in (*NO_INTEGERS, 0, 1, 5):
            check_error(self, InvalidSigns, Draft, many, value=many)

    def test_step_by_step(self):
        draft = Draft(2)
        draft[0, "a"] = 0
        draft[0, "b"] = 1
        self.assertIs(draft.put(1, "a", 0), draft)
        self.assertEqual(shown(draft), (2, 3, [(0, "a", 0), (0, "b", 1), (1, "a", 0)]))
        self.assertEqual(draft.made(), BB)
        draft[1, "a"] = 1
        self.assertEqual(draft[1, "a"], 1)
        self.assertEqual(draft.made().table(), [{"a": 0, "b": 1}, {"a": 1}])
        self.assertIsNone(draft.bar(1, "a"))
        self.assertEqual(draft.made().table(), [{"a": 0}])
        self.assertIsNone(draft.undo())
        draft.undo()
        self.assertEqual(draft.made(), BB)
        self.assertEqual(len(draft), 3)

    def test_by_name(self):
        draft = Draft(2).put(state=0, sign="b", to=63)
        self.assertEqual(draft[0, "b"], 63)
        draft.bar(state=0, sign="b")
        self.assertEqual(len(draft), 0)
        draft.set_width(value=3)
        self.assertEqual(tried_draft(action=len, draft=draft), 0)
        with Trial(draft=draft) as held:
            self.assertIs(held, draft)

    def test_last_states(self):
        draft = made_of(4, (63, "d", 0), (0, "a", 63))
        self.assertEqual(draft.made().table(), [{"a": 1}, {"d": 0}])
        self.assertEqual(shown(draft), (4, 2, [(0, "a", 63), (63, "d", 0)]))

    def test_in(self):
        draft = made_of(2, (0, "a", 0), (1, "b", 1))
        for value in ((0, "a"), (1, "b")):
            self.assertIs(value in draft, True)
        for value in (
            *OTHERS, (0, "b"), (1, "a"), (2, "a"), [0, "a"], (False, "a"), (True, "b"), ("a", 0), (0, "a", 0), (0,),
            ([], "a"), (0, []), ({}, {}), (0, ""), (0, "ab"), (0, None), (0, "e"), (-1, "a"), 0, "a", (0, b"a"),
        ):
            self.assertIs(value in draft, False)

    def test_not_iterated_over(self):
        with self.assertRaises(TypeError):
            list(made_of(2, (0, "a", 0)))

    def test_truth_is_len(self):
        self.assertEqual([len(Draft(2)), len(made_of(2, (0, "a", 1), (5, "a", 0), (0, "b", 0)))], [0, 3])


class WrongDrafts(unittest.TestCase):
    def setUp(self):
        self.draft = made_of(3, (0, "a", 0), (1, "b", 1), (0, "c", 1))
        self.ahead = history(self.draft)

    def tearDown(self):
        # Nothing changes behind any refusal.
        self.assertEqual(history(self.draft), self.ahead)

    def assign(self, state, sign, to):
        self.draft[state, sign] = to

    def test_put(self):
        for call in (self.assign, self.draft.put):
            for value in NO_STATES:
                check_error(self, InvalidState, call, value, "a", 0, value=value)
                check_error(self, InvalidState, call, value, "z", 99, value=value)
                check_error(self, InvalidState, call, 0, "a", value, value=value)
            for value in (None, True, 0, "", "d", "ab", "abc", "A", [], ["a"], {}, b"a", object(), Thing()):
                check_error(self, InvalidSign, call, 0, value, 0, value=value)
                check_error(self, InvalidSign, call, 63, value, 64, value=value)

    def test_unknown_ways(self):
        for state, sign in (
            (0, "b"), (1, "a"), (2, "a"), (64, "a"), (-1, "a"), (True, "b"), (False, "a"), (None, None), ([], {}),
            (0, []), ({}, "a"), (0, "d"), (0, "e"), (0, "ac"), (0, ""), ("a", 0), (object(), set()),
        ):
            check_error(self, UnknownWay, lambda: self.draft[state, sign], state=state, sign=sign)
            check_error(self, UnknownWay, self.draft.bar, state, sign, state=state, sign=sign)

    def test_take_over(self):
        for value in (*OTHERS, Draft(2), BB.table()):
            check_error(self, InvalidMedium, self.draft.__ior__, value, value=value)

    def test_width(self):
        def assign(value):
            self.draft.width = value

        for call in (assign, self.draft.set_width):
            for value in (*NO_INTEGERS, 0, 1, 5, 2):
                check_error(self, InvalidSigns, call, value, value=value)

    def test_made(self):
        check_error(self, NothingLeft, Draft(2).made)
        check_error(self, NothingLeft, made_of(2, (0, "a", 1)).made)
        check_error(self, NothingLeft, made_of(2, (63, "a", 63)).made)
        for state in range(1, 63):
            check_error(self, NothingLeft, made_of(2, (state, "a", state)).made)
            check_error(self, NothingLeft, made_of(2, (state, "a", 63), (63, "b", state)).made)
            self.assertEqual(made_of(2, (0, "a", state), (state, "b", 0), (63, "a", 63)).made().table(),
                             [{"a": 1}, {"b": 0}])
        ring = made_of(2, *[(state, "a", (state + 1) % 17) for state in range(17)], (16, "b", 0))
        check_error(self, TooMany, ring.made, what="states", limit=16)
        ring.bar(15, "a")
        check_error(self, NothingLeft, ring.made)
        ring[15, "a"] = 0
        self.assertEqual(len(ring.made()), 1)

    def test_nothing_to_undo(self):
        draft = Draft(2)
        check_error(self, NothingToUndo, draft.undo)
        draft[0, "a"] = 0
        draft.undo()
        check_error(self, NothingToUndo, draft.undo)
        self.assertEqual(shown(draft), (2, 0, []))
        draft.width = 4
        self.assertEqual(history(draft), [(4, 0, []), (2, 0, [])])


class Widths(unittest.TestCase):
    def test_assigned(self):
        draft = made_of(2, (0, "a", 0))
        self.assertIsNone(draft.set_width(4))
        draft[0, "d"] = 0
        check_error(self, InvalidSigns, draft.set_width, 3, value=3)
        check_error(self, InvalidSigns, draft.set_width, 2, value=2)
        draft.width = 4
        draft.bar(0, "d")
        draft.width = 2
        self.assertEqual(shown(draft), (2, 1, [(0, "a", 0)]))
        check_error(self, InvalidSign, draft.put, 0, "c", 0, value="c")
        self.assertEqual([width for width, _, _ in history(draft)], [2, 4, 4, 4, 4, 2, 2])
        draft.undo()
        self.assertEqual(draft.made().many, 4)

    def test_taken_over(self):
        draft = made_of(4, (7, "d", 9))
        kept = draft
        draft |= BB
        self.assertIs(draft, kept)
        self.assertEqual(shown(draft), (2, 3, [(0, "a", 0), (0, "b", 1), (1, "a", 0)]))
        self.assertEqual(draft.made(), BB)
        draft.undo()
        self.assertEqual(shown(draft), (4, 1, [(7, "d", 9)]))
        draft |= Medium.free(3)
        draft[0, "c"] = 1
        self.assertEqual(Medium.free(3).table(), [{"a": 0, "b": 0, "c": 0}])
        self.assertEqual((len(draft), draft.width), (3, 3))


class Undo(unittest.TestCase):
    def test_each_change(self):
        draft = Draft(2)
        found = [shown(draft)]
        for change in (
            lambda: draft.put(0, "a", 1),
            lambda: draft.put(0, "a", 1),
            lambda: draft.put(0, "a", 2),
            lambda: draft.__setitem__((3, "b"), 0),
            lambda: draft.bar(0, "a"),
            lambda: draft.set_width(2),
            lambda: draft.set_width(3),
            lambda: draft.__ior__(BB),
            lambda: draft.__ior__(BB),
            lambda: draft.bar(1, "a"),
        ):
            change()
            found.append(shown(draft))
        self.assertEqual(len(found), 11)
        self.assertEqual(history(draft), found[::-1])

    def test_changes_behind_undo(self):
        draft = made_of(2, (0, "a", 0), (0, "b", 0))
        draft.undo()
        draft[0, "b"] = 5
        self.assertEqual([ways for _, _, ways in history(draft)],
                         [[(0, "a", 0), (0, "b", 5)], [(0, "a", 0)], []])

    def test_made_is_no_change(self):
        draft = made_of(2, (0, "a", 0))
        draft.made(), draft[0, "a"], len(draft), draft.copy(), draft.width
        self.assertEqual(len(history(draft)), 2)

    def test_copy(self):
        draft = made_of(2, (0, "a", 0), (0, "b", 1))
        draft.bar(0, "a")
        twin = draft.copy()
        self.assertIsNot(twin, draft)
        self.assertEqual(history(twin), history(draft))
        ahead = history(draft)
        twin[0, "a"] = 7
        twin.width = 3
        self.assertEqual(history(draft), ahead)
        twin.undo(), twin.undo(), twin.undo(), twin.undo()
        self.assertEqual(history(draft), ahead)
        draft.undo()
        self.assertEqual(shown(twin), (2, 1, [(0, "a", 0)]))


class Trials(unittest.TestCase):
    def setUp(self):
        self.draft = made_of(2, (0, "a", 0), (0, "b", 1))
        self.ahead = history(self.draft)

    def change(self, draft):
        draft.undo()
        draft[5, "b"] = 6
        draft.width = 4
        draft |= BB
        draft.undo()
        return "told"

    def test_block(self):
        with Trial(self.draft) as held:
            self.assertIs(held, self.draft)
            self.change(held)
            self.assertEqual(held.width, 4)
        self.assertEqual(history(self.draft), self.ahead)

    def test_block_that_raises(self):
        with self.assertRaises(UnknownWay):
            with Trial(self.draft) as held:
                self.change(held)
                held.bar(9, "a")
        self.assertEqual(history(self.draft), self.ahead)

    def test_block_that_takes_all_back(self):
        with Trial(self.draft) as held:
            held.undo(), held.undo()
            with self.assertRaises(NothingToUndo):
                held.undo()
        self.assertEqual(history(self.draft), self.ahead)

    def test_again(self):
        trial = Trial(self.draft)
        with trial as held:
            self.change(held)
        self.draft[1, "a"] = 0
        ahead = history(self.draft)
        with trial as held:
            self.change(held)
        self.assertEqual(history(self.draft), ahead)
        self.assertEqual(self.draft.made(), BB)

    def test_made_but_not_entered(self):
        trial = Trial(self.draft)
        self.draft[1, "a"] = 0
        with trial:
            self.draft.undo()
        self.assertEqual(self.draft.made(), BB)

    def test_one_within_another(self):
        with Trial(self.draft) as held:
            held[1, "a"] = 0
            with Trial(held) as inner:
                self.change(inner)
            self.assertEqual(held.made(), BB)
        self.assertEqual(history(self.draft), self.ahead)

    def test_copy_in_a_block(self):
        with Trial(self.draft) as held:
            twin = held.put(1, "a", 0).copy()
        self.assertEqual(history(self.draft), self.ahead)
        self.assertEqual(twin.made(), BB)

    def test_tried(self):
        self.assertEqual(tried_draft(self.draft, self.change), "told")
        self.assertEqual(history(self.draft), self.ahead)
        self.assertIs(tried_draft(self.draft, lambda draft: draft), self.draft)

    def test_tried_with_an_error(self):
        error = KeyError("x")

        def action(draft):
            self.change(draft)
            raise error

        with self.assertRaises(KeyError) as caught:
            tried_draft(self.draft, action)
        self.assertIs(caught.exception, error)
        self.assertEqual(history(self.draft), self.ahead)
