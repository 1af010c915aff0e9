"""Desks: spreads, spaces and stores under names, promises about them, and deeds that can be taken back."""

from laneswap.checks import is_name, is_whole
from laneswap.errors import BadPromise, BadValue, Broken, NotMade, NothingToUndo, Unequal, Unknown
from laneswap.maps import Map
from laneswap.rounds import fewest_rounds
from laneswap.spaces import Space
from laneswap.spreads import Spread, hold_alike
from laneswap.stores import Store
from laneswap.sums import sum_rounds, sum_steps

ROUNDS = "rounds"
SUMS = "sums"
STEPS = "steps"
ALIKE = "alike"
FITS = "fits"
FREE = "free"


class Desk:
    """Things under names, and promises that are kept behind each deed.

    The things and the promises are never changed, but replaced; so each deed keeps those ahead of it.
    """

    def __init__(self):
        self._things = {}
        self._promises = ()
        self._deeds = ()
        self._depth = 0

    def __getitem__(self, name):
        if name not in self:
            raise Unknown(name)
        return self._things[name]

    def __iter__(self):
        raise TypeError("a desk is not iterated over: see names()")

    def __contains__(self, name):
        return is_name(name) and name in self._things

    def __len__(self):
        return len(self._things)

    def names(self):
        """The tuple of the names, ascending."""
        return tuple(sorted(list(self._things)))

    def promises(self):
        """The tuple of the promises, as they were made."""
        return self._promises

    def holds(self, promise):
        """Whether a promise would be kept now."""
        check_promise(promise)
        return is_kept(self._things, promise)

    def undoable(self):
        """How many deeds undo can take back."""
        return len(self._deeds)

    def put(self, name, thing):
        """Puts a Spread, a Space or a Store under a name."""
        if not is_name(name):
            raise BadValue(name)
        if not isinstance(thing, (Spread, Space, Store)):
            raise BadValue(thing)
        things = dict(self._things)
        things[name] = thing
        self._do_keeping(things, self._promises)

    def drop(self, name):
        """Takes the thing with a name away."""
        if name not in self:
            raise Unknown(name)
        things = {key: thing for key, thing in self._things.items() if key != name}
        self._do_keeping(things, self._promises)

    def rename(self, change):
        """Renames the entries of all things by a Map that can be undone."""
        if not isinstance(change, Map) or change.goal != change.source:
            raise BadValue(change)
        for name in self.names():
            bits = bits_of(self._things[name])
            if bits != change.source:
                raise Unequal(bits, change.source)
        back = ~change
        things = {name: renamed_thing(thing, change, back) for name, thing in self._things.items()}
        self._do_keeping(things, self._promises)

    def keep(self, promise):
        """Makes a promise, if it is not made already."""
        check_promise(promise)
        if promise not in self._promises:
            self._do_keeping(self._things, self._promises + (promise,))

    def release(self, promise):
        """Takes a promise back."""
        check_promise(promise)
        if promise not in self._promises:
            raise NotMade(promise)
        self._do(self._things, tuple([made for made in self._promises if made != promise]))

    def undo(self):
        """Takes the last deed back."""
        if len(self._deeds) == 0:
            raise NothingToUndo()
        self._things, self._promises = self._deeds[-1]
        self._deeds = self._deeds[:-1]

    def attempt(self, action):
        """What action returns for this desk; what it does is one deed, and nothing if an error is raised."""
        return self._act(action, True)

    def trial(self, action):
        """What action returns for this desk; all is as before behind it."""
        return self._act(action, False)

    def _do(self, things, promises):
        """A deed that leads to these things and promises."""
        self._deeds = self._deeds + ((self._things, self._promises),)
        self._things = things
        self._promises = promises

    def _do_keeping(self, things, promises):
        """A deed that is done only if the promises are kept; within attempts and trials none looks at them."""
        if self._depth == 0:
            check_kept(things, promises)
        self._do(things, promises)

    def _act(self, action, lasting):
        """What action returns; all is as before if an error is raised, or if what is done shall not last."""
        things, promises, deeds, depth = self._things, self._promises, self._deeds, self._depth
        later = deeds + ((things, promises),)
        done = None
        self._deeds = ()
        self._depth = depth + 1
        try:
            result = action(self)
            if lasting:
                if depth == 0:
                    check_kept(self._things, self._promises)
                done = True
        finally:
            self._depth = depth
            self._deeds = later
            if done is None:
                self._things = things
                self._promises = promises
                self._deeds = deeds
        return result


def bits_of(thing):
    """The bits of the entries of a thing."""
    if isinstance(thing, Store):
        return thing.change.source
    return thing.bits


def renamed_thing(thing, change, back):
    """A thing behind entries are renamed by change, which back undoes."""
    if isinstance(thing, Spread):
        return thing.renamed(change)
    if isinstance(thing, Space):
        return change.moved(thing)
    return Store(thing.change * back, thing.banks)


def is_promise(value):
    """Whether value is one of the tuples that are promises."""
    if not isinstance(value, tuple) or len(value) not in (3, 4) or not is_name(value[1]) or not is_name(value[2]):
        return False
    if len(value) == 3:
        return value[0] in (ALIKE, FREE)
    return value[0] in (ROUNDS, SUMS, STEPS, FITS) and is_whole(value[3])


def check_promise(value):
    """BadPromise unless value is a promise."""
    if not is_promise(value):
        raise BadPromise(value)


def check_kept(things, promises):
    """Broken with the first promise that the things do not keep."""
    for promise in promises:
        if not is_kept(things, promise):
            raise Broken(promise)


def is_kept(things, promise):
    """Whether the names of a promise name such things, of equal bits, and it is true of them."""
    one = things.get(promise[1])
    other = things.get(promise[2])
    if not isinstance(one, Spread) or other is None or bits_of(other) != one.bits:
        return False
    if promise[0] in (ROUNDS, ALIKE):
        return isinstance(other, Spread) and is_kept_by_spreads(one, other, promise)
    if promise[0] in (SUMS, STEPS):
        return isinstance(other, Space) and is_kept_by_space(one, other, promise)
    return isinstance(other, Store) and is_kept_by_store(one, other, promise)


def is_kept_by_spreads(one, other, promise):
    """Whether a promise about two Spreads of equal bits is true."""
    if promise[0] == ALIKE:
        return hold_alike(one, other)
    return len(one.lanes) == len(other.lanes) and fewest_rounds(one, other) <= promise[3]


def is_kept_by_space(spread, space, promise):
    """Whether a promise about sums is true."""
    if promise[0] == SUMS:
        return sum_rounds(spread, space) <= promise[3]
    return len(sum_steps(spread, space)) <= promise[3]


def is_kept_by_store(spread, store, promise):
    """Whether a promise about transfers is true."""
    if promise[0] == FREE:
        return store.beats(spread, 0) == 1
    return promise[3] <= store.banks and store.fits(spread, promise[3])
