import random
import unittest

from laneswap.desk import Desk
from laneswap.errors import (BadPromise, BadValue, Broken, LaneError, NotMade, NotOneToOne, NothingToUndo, Unequal,
                             Unknown)
from laneswap.maps import Map, unit_map
from laneswap.rounds import fewest_rounds
from laneswap.spaces import Space
from laneswap.spreads import Spread, hold_alike
from laneswap.stores import Store
from laneswap.sums import sum_rounds, sum_steps
from laneswap.tables import Table
from tests.drawing import drawn_map, drawn_space, drawn_spread, drawn_undoable
from tests.wrong import STRANGE, Place, check_names, check_wrong, no_wholes, themselves

GRID, TURNED = Spread(4, [1, 2], [4, 8]), Spread(4, [4, 8], [1, 2])
ROWS = Space(4, [4, 8])
LEVEL = Store(unit_map(4), 2)


def state(desk):
    """All that a desk tells of itself; things by their values."""
    return [(name, shown(desk[name])) for name in desk.names()], desk.promises(), desk.undoable(), len(desk)


def shown(thing):
    if isinstance(thing, Store):
        return "store", thing.change.columns, thing.banks
    if isinstance(thing, Space):
        return "space", thing.bits, thing.rows
    return "spread", thing.bits, thing.slots, thing.lanes


def kept(things, promise):
    """Whether a promise is kept, as the document tells it."""
    kind, one, other = promise[:3]
    first, second = things.get(one), things.get(other)
    if not isinstance(first, Spread):
        return False
    if kind in ("rounds", "alike"):
        if not isinstance(second, Spread) or first.bits != second.bits:
            return False
        if kind == "alike":
            return hold_alike(first, second)
        return len(first.lanes) == len(second.lanes) and fewest_rounds(first, second) <= promise[3]
    if kind in ("sums", "steps"):
        if not isinstance(second, Space) or first.bits != second.bits:
            return False
        many = sum_rounds(first, second) if kind == "sums" else len(sum_steps(first, second))
        return many <= promise[3]
    if not isinstance(second, Store) or first.bits != second.change.source:
        return False
    if kind == "free":
        return second.beats(first, 0) == 1
    return promise[3] <= second.banks and second.fits(first, promise[3])


class Model:
    """A desk as the document tells it: what is there ahead of each deed is kept whole."""

    def __init__(self):
        self.things, self.made, self.deeds, self.inner = {}, [], [], 0

    def snapshot(self):
        return dict(self.things), list(self.made), self.inner

    def do(self, deed):
        before = self.snapshot()
        try:
            deed()
            self.look()
        except LaneError:
            self.things, self.made = before[:2]
            raise
        self.deeds.append(before)

    def look(self):
        for promise in [] if self.inner else self.made:
            if not kept(self.things, promise):
                raise Broken(promise)

    def put(self, name, thing):
        self.do(lambda: self.things.update({name: thing}))

    def drop(self, name):
        if name not in self.things:
            raise Unknown(name)
        self.do(lambda: self.things.pop(name))

    def rename(self, change):
        for name in sorted(self.things):
            thing = self.things[name]
            bits = thing.change.source if isinstance(thing, Store) else thing.bits
            if bits != change.source:
                raise Unequal(bits, change.source)
        back = ~change
        self.do(lambda: self.things.update({name: self.renamed(thing, change, back) for name, thing in self.things.items()}))

    def renamed(self, thing, change, back):
        if isinstance(thing, Store):
            return Store(thing.change * back, thing.banks)
        return thing.renamed(change) if isinstance(thing, Spread) else change.moved(thing)

    def keep(self, promise):
        if promise not in self.made:
            self.do(lambda: self.made.append(promise))

    def release(self, promise):
        if promise not in self.made:
            raise NotMade(promise)
        before = self.snapshot()
        self.made.remove(promise)
        self.deeds.append(before)

    def undo(self):
        if not self.deeds:
            raise NothingToUndo()
        self.things, self.made = self.deeds.pop()[:2]

    def attempt(self, action):
        return self.act(action, True)

    def trial(self, action):
        return self.act(action, False)

    def act(self, action, lasting):
        before, deeds, good = self.snapshot(), self.deeds, False
        self.deeds = []
        self.inner += 1
        try:
            result = action(self)
            self.inner -= 1
            if lasting:
                self.look()
            self.inner += 1
            good = lasting
            return result
        finally:
            self.inner = before[2]
            self.deeds = [*deeds, before] if good else deeds
            if not good:
                self.things, self.made = before[:2]

    def state(self):
        things = [(name, shown(self.things[name])) for name in sorted(self.things)]
        return things, tuple(self.made), len(self.deeds), len(self.things)


class Stop(Exception):
    """An error that is none of the package."""


def drawn_thing(draw):
    """A thing, mostly of three bits."""
    bits = draw.choice((3, 3, 3, 3, 2))
    kind = draw.randrange(4)
    if kind < 2:
        return drawn_spread(draw, bits, draw.choice((1, 1, 2)), draw.choice((bits - 1, bits)))
    return drawn_space(draw, bits) if kind == 2 else Store(drawn_undoable(draw, bits), draw.randrange(bits + 1))


def drawn_promise(draw):
    one, other = draw.choice("abcd"), draw.choice("abcd")
    kind = draw.choice(("rounds", "sums", "steps", "alike", "fits", "free"))
    if kind in ("alike", "free"):
        return kind, one, other
    return kind, one, other, draw.choice((0, 0, 1, 2, 9))


def drawn_pool(draw, things):
    """Some promises, of which most are kept if some are."""
    drawn = [drawn_promise(draw) for _ in range(80)]
    return [each for each in drawn if kept(things, each)][:6] + drawn[:2]


def drawn_step(draw, depth, pool):
    """A step of a history: a deed with its arguments, whether its error is caught, and the steps within it."""
    kinds = ["put"] * 5 + ["drop", "rename", "keep", "keep", "keep", "keep", "release", "undo", "undo"]
    kind = draw.choice(kinds + (["attempt", "attempt", "trial"] if depth < 4 else []) + (["stop"] if depth else []))
    arguments, steps = [], []
    if kind == "put":
        arguments = [draw.choice("abcd"), drawn_thing(draw)]
    elif kind == "drop":
        arguments = [draw.choice("abcde")]
    elif kind == "rename":
        arguments = [draw.choice([drawn_undoable(draw, 3), drawn_undoable(draw, 3), drawn_map(draw, 3, 3), unit_map(2)])]
    elif kind in ("keep", "release"):
        arguments = [draw.choice(pool)]
    elif kind in ("attempt", "trial"):
        steps = [drawn_step(draw, depth + 1, pool) for _ in range(draw.randrange(5))]
    return kind, arguments, draw.randrange(4) > 0, steps


def play(desk, step, log):
    """Plays a step, with all within it; errors and answers go to the log."""
    kind, arguments, _, steps = step
    if kind == "stop":
        raise Stop()
    if kind in ("attempt", "trial"):
        answer = getattr(desk, kind)(lambda given: play_all(desk, given, steps, log))
    else:
        answer = getattr(desk, kind)(*arguments)
    log.append((kind, answer))


def play_all(desk, given, steps, log):
    assert given is desk
    for step in steps:
        try:
            play(desk, step, log)
        except (LaneError, Stop) as error:
            log.append((type(error), vars(error)))
            if not step[2]:
                raise
    return len(steps)


class HistoryTest(unittest.TestCase):

    def test_drawn_histories(self):
        draw = random.Random(1)
        found = {}
        for _ in range(150):
            desk, model = Desk(), Model()
            for name in "abcd":
                thing = drawn_thing(draw)
                desk.put(name, thing)
                model.put(name, thing)
            pool = drawn_pool(draw, model.things)
            for _ in range(25):
                step = drawn_step(draw, 0, pool)
                logs = [], []
                for each, log in zip((desk, model), logs):
                    try:
                        play(each, step, log)
                    except (LaneError, Stop) as error:
                        log.append((type(error), vars(error)))
                self.assertEqual(logs[0], logs[1], step)
                self.assertEqual(state(desk), model.state(), step)
                for told in logs[0]:
                    found[told[0]] = found.get(told[0], 0) + 1
            for promise in [drawn_promise(draw) for _ in range(5)]:
                self.assertIs(desk.holds(promise), kept(model.things, promise))
        for kind in (Broken, Unknown, Unequal, NotOneToOne, NothingToUndo, NotMade, Stop, "put", "drop", "rename", "keep",
                     "release", "undo", "attempt", "trial"):
            self.assertGreater(found[kind], 20, kind)

    def test_undo_back_to_the_beginning(self):
        draw = random.Random(2)
        for _ in range(60):
            desk, states = Desk(), []
            pool = drawn_pool(draw, {"a": GRID, "b": ROWS})
            states.append(state(desk))
            while desk.undoable() < 30:
                try:
                    play(desk, drawn_step(draw, 2, pool), [])
                except (LaneError, Stop):
                    pass
                many = desk.undoable()
                self.assertLessEqual(many, len(states))
                states = [*states[:many], state(desk)]
            for told in states[-2::-1]:
                self.assertIsNone(desk.undo())
                self.assertEqual(state(desk), told)
            self.assertEqual(state(desk), state(Desk()))
            with self.assertRaises(NothingToUndo):
                desk.undo()


class DeskTest(unittest.TestCase):

    def filled_desk(self):
        desk = Desk()
        for name, thing in [("grid", GRID), ("turned", TURNED), ("rows", ROWS), ("level", LEVEL)]:
            self.assertIsNone(desk.put(name, thing))
        return desk

    def test_names_and_things(self):
        desk = self.filled_desk()
        self.assertEqual((desk.names(), len(desk)), (("grid", "level", "rows", "turned"), 4))
        self.assertEqual((desk["grid"], desk["rows"], shown(desk["level"])), (GRID, ROWS, shown(LEVEL)))
        for name in ("grid", "level"):
            self.assertIs(name in desk, True)
        for value in (None, 0, "", "Grid", "other", [], {}, STRANGE, GRID, ("grid",)):
            self.assertIs(value in desk, False)
            for ask in (lambda: desk[value], lambda: desk.drop(value)):
                with self.assertRaises(Unknown) as caught:
                    ask()
                self.assertIs(caught.exception.name, value)
        with self.assertRaises(TypeError):
            iter(desk)
        self.assertEqual((len(Desk()), Desk().names(), Desk().promises(), Desk().undoable()), (0, (), (), 0))

    def test_a_deed_that_changes_nothing_is_one(self):
        desk = self.filled_desk()
        desk.put("grid", GRID)
        desk.rename(unit_map(4))
        desk.attempt(lambda one: None)
        self.assertEqual(desk.undoable(), 7)
        desk.keep(("free", "turned", "level"))
        desk.keep(("free", "turned", "level"))
        self.assertEqual((desk.undoable(), desk.promises()), (8, (("free", "turned", "level"),)))
        empty = Desk()
        empty.rename(unit_map(3))
        self.assertEqual(empty.undoable(), 1)
        with self.assertRaises(NotOneToOne):
            empty.rename(Map(2, [1, 1]))

    def test_promises_of_all_kinds(self):
        desk = self.filled_desk()
        told = [(("rounds", "grid", "turned", 3), True), (("rounds", "grid", "turned", 2), False),
                (("rounds", "grid", "grid", 0), True), (("rounds", "grid", "rows", 9), False),
                (("sums", "grid", "rows", 3), True), (("sums", "grid", "rows", 2), False),
                (("steps", "grid", "rows", 2), True), (("steps", "grid", "rows", 1), False),
                (("steps", "grid", "turned", 9), False), (("alike", "grid", "grid"), True), (("alike", "grid", "turned"), False),
                (("fits", "grid", "level", 2), True), (("fits", "turned", "level", 0), True),
                (("fits", "turned", "level", 1), False), (("fits", "grid", "level", 3), False),
                (("fits", "grid", "level", 10 ** 30), False), (("free", "turned", "level"), True),
                (("free", "grid", "level"), False), (("free", "grid", "other"), False), (("free", "level", "grid"), False),
                (("alike", "other", "grid"), False), (("sums", "rows", "grid", 9), False), (("alike", "rows", "rows"), False)]
        for promise, holds in told:
            self.assertIs(desk.holds(promise), holds, promise)
            before = state(desk)
            if holds:
                self.assertIsNone(desk.keep(promise))
                self.assertIn(promise, desk.promises())
            else:
                with self.assertRaises(Broken) as caught:
                    desk.keep(promise)
                self.assertIs(caught.exception.promise, promise)
                self.assertEqual(state(desk), before)
        kept_ones = tuple([promise for promise, holds in told if holds])
        self.assertEqual(desk.promises(), kept_ones)

    def test_equal_bits_and_lanes(self):
        desk = Desk()
        desk.put("a", Spread(2, [1], [2]))
        for thing in (Spread(2, [1], [2, 0]), Spread(3, [1, 2], [4]), Space(3, [1]), Store(unit_map(3), 1), Store(unit_map(1), 1)):
            desk.put("b", thing)
            for kind in ("rounds", "sums", "steps", "fits"):
                self.assertIs(desk.holds((kind, "a", "b", 0)), False)
            self.assertIs(desk.holds(("alike", "a", "b")), False)
            self.assertIs(desk.holds(("free", "a", "b")), False)

    def test_the_first_broken_promise_tells(self):
        desk = self.filled_desk()
        promises = [("steps", "grid", "rows", 2), ("sums", "grid", "rows", 3), ("alike", "grid", "grid"), ("fits", "grid", "level", 2)]
        for promise in promises:
            desk.keep(promise)
        before = state(desk)
        for call, promise in [(lambda: desk.drop("grid"), promises[0]), (lambda: desk.drop("rows"), promises[0]),
                              (lambda: desk.drop("level"), promises[3]), (lambda: desk.put("level", Store(unit_map(4), 1)), promises[3]),
                              (lambda: desk.put("grid", ROWS), promises[0]), (lambda: desk.put("rows", GRID), promises[0])]:
            with self.assertRaises(Broken) as caught:
                call()
            self.assertEqual(caught.exception.promise, promise)
            self.assertEqual(state(desk), before)
        desk.release(promises[0])
        self.assertEqual(desk.promises(), tuple(promises[1:]))
        with self.assertRaises(Broken) as caught:
            desk.drop("grid")
        self.assertEqual(caught.exception.promise, promises[1])
        with self.assertRaises(NotMade) as caught:
            desk.release(promises[0])
        self.assertEqual(caught.exception.promise, promises[0])
        desk.keep(promises[0])
        self.assertEqual(desk.promises(), (*promises[1:], promises[0]))
        desk.undo()
        desk.undo()
        self.assertEqual(state(desk), before)

    def test_renaming(self):
        desk = self.filled_desk()
        for promise in [("rounds", "grid", "turned", 3), ("sums", "grid", "rows", 3), ("fits", "grid", "level", 2),
                        ("free", "turned", "level")]:
            desk.keep(promise)
        change = Map(4, [3, 1, 12, 4])
        desk.rename(change)
        self.assertEqual((desk["grid"], desk["turned"]), (GRID.renamed(change), TURNED.renamed(change)))
        self.assertEqual(desk["rows"], change.moved(ROWS))
        for entry in range(16):
            self.assertEqual(desk["level"].change(change(entry)), LEVEL.change(entry))
        self.assertEqual(desk["level"].banks, 2)
        before = state(desk)
        with self.assertRaises(NotOneToOne) as caught:
            desk.rename(Map(4, [1, 2, 3, 4]))
        self.assertEqual(caught.exception.word, 7)
        for wrong, one in [(unit_map(3), 4), (Map(5, [1] * 5), 4), (Map(0, []), 4)]:
            with self.assertRaises(Unequal) as caught:
                desk.rename(wrong)
            self.assertEqual((caught.exception.one, caught.exception.other), (one, wrong.source))
        self.assertEqual(state(desk), before)
        desk.attempt(lambda each: [each.put("hall", Space(3, [1])), each.put("zoo", Space(2, [1]))])
        for wrong, one in [(unit_map(4), 3), (unit_map(3), 4), (unit_map(9), 4)]:
            with self.assertRaises(Unequal) as caught:
                desk.rename(wrong)
            self.assertEqual((caught.exception.one, caught.exception.other), (one, wrong.source))

    def test_attempts_look_at_promises_behind_all(self):
        desk = self.filled_desk()
        promise = ("sums", "grid", "rows", 3)
        desk.keep(promise)
        before = state(desk)
        answer = object()
        self.assertIs(desk.attempt(lambda one: [one.drop("rows"), one.put("rows", ROWS), answer][2]), answer)
        self.assertEqual((state(desk)[0], desk.undoable()), (before[0], before[2] + 1))
        desk.undo()
        with self.assertRaises(Broken) as caught:
            desk.attempt(lambda one: [one.put("other", GRID), one.drop("rows")])
        self.assertEqual((caught.exception.promise, state(desk)), (promise, before))
        broken = ("alike", "grid", "turned")
        with self.assertRaises(Broken) as caught:
            desk.attempt(lambda one: one.keep(broken))
        self.assertEqual((caught.exception.promise, state(desk)), (broken, before))
        # Behind an attempt promises are looked at again.
        with self.assertRaises(Broken):
            desk.drop("rows")

    def test_errors_within_attempts(self):
        desk = self.filled_desk()
        before = state(desk)

        def wrong(one):
            one.put("other", GRID)
            one.undo()
            one.drop("grid")
            raise Stop()

        for act in (desk.attempt, desk.trial, lambda action: desk.attempt(lambda one: one.trial(action)),
                    lambda action: desk.trial(lambda one: one.attempt(action))):
            with self.assertRaises(Stop):
                act(wrong)
            self.assertEqual(state(desk), before)
        with self.assertRaises(Unknown):
            desk.attempt(lambda one: [one.drop("rows"), one["rows"]])
        self.assertEqual(state(desk), before)

    def test_undo_within_attempts(self):
        desk = self.filled_desk()

        def deeds(one):
            self.assertEqual(one.undoable(), 0)
            with self.assertRaises(NothingToUndo):
                one.undo()
            one.drop("grid")
            one.drop("rows")
            one.undo()
            self.assertEqual((one.undoable(), "rows" in one, "grid" in one), (1, True, False))
            return one.attempt(lambda inner: [inner.undoable(), inner.drop("level"), inner.undoable()]), one.undoable()

        self.assertEqual(desk.attempt(deeds), ([0, None, 1], 2))
        self.assertEqual((desk.names(), desk.undoable()), (("rows", "turned"), 5))
        desk.undo()
        self.assertEqual((desk.names(), desk.undoable()), (("grid", "level", "rows", "turned"), 4))

    def test_trials(self):
        desk = self.filled_desk()
        desk.keep(("alike", "grid", "grid"))
        before = state(desk)
        self.assertEqual(desk.trial(lambda one: [one.drop("grid"), one.names(), one.holds(("alike", "grid", "grid"))]),
                         [None, ("level", "rows", "turned"), False])
        self.assertEqual(state(desk), before)
        # An attempt within a trial looks at no promises, and is taken back with it.
        self.assertEqual(desk.trial(lambda one: [one.attempt(lambda inner: inner.drop("grid")), len(one), one.undoable()]),
                         [None, 3, 1])
        self.assertEqual(state(desk), before)
        # A trial within an attempt changes nothing of it.
        self.assertEqual(desk.attempt(lambda one: [one.trial(lambda inner: inner.drop("grid")), len(one), one.undoable()]),
                         [None, 4, 0])
        self.assertEqual(desk.undoable(), before[2] + 1)

    def test_four_deep(self):
        desk = self.filled_desk()
        desk.keep(("alike", "grid", "grid"))

        def down(depth):
            if depth == 0:
                return lambda one: one.drop("grid")
            return lambda one: one.attempt(down(depth - 1))

        before = state(desk)
        with self.assertRaises(Broken):
            desk.attempt(down(3))
        self.assertEqual(state(desk), before)
        self.assertEqual(desk.attempt(lambda one: [one.attempt(down(2)), one.put("grid", TURNED), one.undoable()][2]), 2)
        self.assertEqual((desk["grid"], desk.undoable()), (TURNED, before[2] + 1))

    def test_what_is_told_does_not_change_the_desk(self):
        desk = self.filled_desk()
        desk.keep(("alike", "grid", "grid"))
        names, promises = desk.names(), desk.promises()
        self.assertIsInstance(names, tuple)
        self.assertIsInstance(promises, tuple)
        desk.attempt(lambda one: [one.release(promises[0]), one.drop("grid")])
        self.assertEqual((names, promises), (("grid", "level", "rows", "turned"), (("alike", "grid", "grid"),)))

    def test_desks_are_equal_to_themselves_only(self):
        desk = Desk()
        self.assertTrue(desk == desk and desk != Desk())


class WrongTest(unittest.TestCase):

    def test_wrong_values(self):
        desk = Desk()
        desk.put("grid", GRID)
        before = state(desk)
        names = Place("name", "a", themselves([None, 0, True, "", "A", "abcdefghi", "a b", "a1", [], ("a",), GRID, STRANGE]))
        things = Place("thing", ROWS, themselves([None, 0, True, "a", [], (GRID,), unit_map(4), Table([("a", 4)]), Desk(), STRANGE]))
        check_wrong(self, desk.put, [names, things])
        maps = Place("change", unit_map(4), themselves([None, 0, "a", [1, 2, 4, 8], GRID, LEVEL, Map(4, [1, 2]), Map(3, [1] * 4),
                                                        Map(2, []), STRANGE]))
        check_wrong(self, desk.rename, [maps])
        self.assertEqual(state(desk), before)
        check_names(self, desk.put, [names, things])
        check_names(self, desk.rename, [maps])

    def test_bad_promises(self):
        desk = Desk()
        desk.put("grid", GRID)
        bad = [None, 0, "alike", [], (), ["alike", "grid", "grid"], ("alike", "grid"), ("alike", "grid", "grid", 1),
               ("free", "grid", "grid", 0), ("rounds", "grid", "grid"), ("rounds", "grid", "grid", -1),
               ("rounds", "grid", "grid", True), ("rounds", "grid", "grid", 1.0), ("rounds", "grid", "grid", "1"),
               ("rounds", "grid", "grid", None), ("rounds", "grid", "grid", 1, 1), ("Rounds", "grid", "grid", 1),
               ("sums", "grid", "", 1), ("steps", "Grid", "grid", 1), ("fits", "grid", None, 1), ("fits", 0, "grid", 1),
               ("alike", GRID, GRID), ("other", "grid", "grid"), (None, "grid", "grid", 1), ("alike", [], {}), {}, STRANGE]
        before = state(desk)
        for value in bad:
            for ask in (desk.keep, desk.release, desk.holds):
                with self.assertRaises(BadPromise) as caught:
                    ask(value)
                self.assertIs(caught.exception.promise, value)
                with self.assertRaises(BadPromise):
                    ask(promise=value)
        self.assertEqual(state(desk), before)
        for whole in no_wholes():
            with self.assertRaises(BadPromise):
                desk.holds(("fits", "grid", "grid", whole))

    def test_errors_in_their_order(self):
        desk = Desk()
        desk.put("grid", GRID)
        desk.keep(("alike", "grid", "grid"))
        with self.assertRaises(BadValue) as caught:
            desk.put("grid", None)
        self.assertIsNone(caught.exception.value)
        with self.assertRaises(Unequal):
            desk.rename(Map(3, [1, 1, 1]))
        with self.assertRaises(Broken):
            desk.put(name="grid", thing=ROWS)
        with self.assertRaises(Broken):
            desk.drop(name="grid")
        self.assertIsNone(desk.release(promise=("alike", "grid", "grid")))
        self.assertEqual(desk.attempt(action=lambda one: desk.trial(action=lambda two: two is one is desk)), True)
        self.assertIs(desk.holds(promise=("alike", "grid", "grid")), True)
        desk.drop(name="grid")
        self.assertEqual(len(desk), 0)


if __name__ == "__main__":
    unittest.main()
