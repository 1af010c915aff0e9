"""Tables: names for the bits of entries, and the texts of words and spreads."""

from laneswap.checks import check_list, check_text, check_word, is_list, is_name, is_whole
from laneswap.errors import BadLine, BadText, BadValue, Unknown
from laneswap.spreads import Spread
from laneswap.words import ones

BETWEEN_LINES = "; "
BETWEEN_NAMES = " + "
BEHIND_PLACE = " = "
ZERO = "0"


class Table:
    """The names of the bits of entries: groups of bits with a name and a count, the first one lowest."""

    def __init__(self, groups):
        check_groups(groups)
        self.groups = tuple([(name, count) for name, count in groups])
        names = []
        for name, count in self.groups:
            names = names + [f"{name} {bit}" for bit in range(count)]
        self.bits = len(names)
        self._names = tuple(names)
        self._units = {name: 1 << bit for bit, name in enumerate(names)}

    def __eq__(self, other):
        return isinstance(other, Table) and self.groups == other.groups

    def part(self, name):
        """The pair of the lowest bit and the number of bits of a group."""
        if not is_name(name):
            raise BadValue(name)
        first = 0
        for group, count in self.groups:
            if group == name:
                return (first, count)
            first = first + count
        raise Unknown(name)

    def write_word(self, word):
        """The text of a word."""
        check_word(word, self.bits)
        if word == 0:
            return ZERO
        return BETWEEN_NAMES.join([self._names[bit] for bit in ones(word)])

    def read_word(self, text):
        """The word of a text."""
        check_text(text)
        word = named_word(self._units, text)
        if word is None:
            raise BadText(text)
        return word

    def write(self, spread):
        """The text of a Spread."""
        if not isinstance(spread, Spread) or spread.bits != self.bits:
            raise BadValue(spread)
        lines = [f"slot {bit} = {self.write_word(word)}" for bit, word in enumerate(spread.slots)]
        lines = lines + [f"lane {bit} = {self.write_word(word)}" for bit, word in enumerate(spread.lanes)]
        return BETWEEN_LINES.join(lines)

    def read(self, text):
        """The Spread of a text."""
        check_text(text)
        lines = []
        if text:
            lines = text.split(BETWEEN_LINES)
        words = {}
        for at, line in enumerate(lines):
            place, _, told = line.partition(BEHIND_PLACE)
            word = named_word(self._units, told)
            if word is None or not is_place(place) or place in words:
                raise BadLine(at)
            words[place] = word
        slots = words_in_order(words, "slot")
        lanes = words_in_order(words, "lane")
        if len(slots) + len(lanes) < len(lines):
            raise BadLine(len(lines))
        return Spread(self.bits, slots, lanes)


def check_groups(groups):
    """BadValue unless groups is a list of pairs of unlike names and counts."""
    check_list(groups)
    for group in groups:
        if not is_group(group):
            raise BadValue(group)
    if len({name for name, _ in groups}) < len(groups):
        raise BadValue(groups)


def is_group(value):
    """Whether value is a pair of a name and a count."""
    return is_list(value) and len(value) == 2 and is_name(value[0]) and is_whole(value[1])


def named_word(units, text):
    """The word of a text, by the units of the names; None if it is not the text of a word."""
    if text == ZERO:
        return 0
    word = 0
    for name in text.split(BETWEEN_NAMES):
        unit = units.get(name, 0)
        if unit == 0 or word & unit:
            return None
        word = word | unit
    return word


def is_place(text):
    """Whether text names a slot bit or a lane bit."""
    kind, _, number = text.partition(" ")
    if kind not in ("slot", "lane"):
        return False
    if not number.isascii() or not number.isdigit():
        return False
    return number == ZERO or not number.startswith(ZERO)


def words_in_order(words, kind):
    """The words of the bits of a kind, from bit 0 on, up to the first bit without one."""
    found = []
    while f"{kind} {len(found)}" in words:
        found.append(words[f"{kind} {len(found)}"])
    return found
