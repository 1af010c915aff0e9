"""Sweeps: the ranks of bands at all sizes, by taking their out bits from both ends towards the middle.

The site j of a track consists of its bits j counted from 0 and counted from the top, as long as j is less than
half of the size. Rules join bits of near sites only.
"""

from laneswap.bands import MIRROR, POINT, source_of
from laneswap.reducing import dimensions_gained, grown
from laneswap.sizes import Size

SITE = "site"
LONG_SWEEP = 400
# The longest start and period of the lines that callers may ask for.
LONGEST = 60


class Sweep:
    """The rows of out bits taken site by site, from both ends towards the middle.

    Of what the rows of the sites ahead of site span, rows span those words in which no in bit of a site
    before site - reach stands; dimension is that of all.
    """

    def __init__(self, bands):
        self.site = 0
        self.dimension = 0
        self.rows = ()
        self.bands = bands
        self.reach = reach_of(bands)
        self._kept = {}

    def take_site(self):
        """Takes the rows of the next site."""
        rows = self.rows
        for word in self._words_of(SITE, 2 * (self.site + self.reach + 1)):
            rows = grown(rows, word)
        self.dimension = self.dimension + len(rows) - len(self.rows)
        width = 2 * len(self.bands.ins)
        oldest = 2 * self.reach * width
        self.rows = tuple([row << width for row in rows if row >> oldest == 0])
        self.site = self.site + 1

    def rank_at(self, n):
        """The rank at a size whose middle is as far from the site as the rules reach, or nearer at site 0."""
        return self.dimension + dimensions_gained(self.rows, self._words_of(n % 2, n))

    def _words_of(self, kind, n):
        """The words of the rows of the site, or of all bits between those taken, at a size; alike for settled sites."""
        if self.site <= self.reach or kind not in self._kept:
            self._kept[kind] = self._told_words(kind, n)
        return self._kept[kind]

    def _told_words(self, kind, n):
        """The words of _words_of, told anew."""
        words = []
        for out, extra in enumerate(self.bands.outs):
            top = n + extra - 1 - self.site
            bits = list(range(self.site, top + 1))
            if kind == SITE:
                bits = [self.site, top]
            words = words + [self._word(n, out, bit) for bit in bits]
        return words

    def _word(self, n, out, bit):
        """The word of the in bits that a bit of an out track gets."""
        word = 0
        for at, number in self.bands.in_bits(n, out, bit):
            word = word ^ 1 << self._place(n, at, number)
        return word

    def _place(self, n, at, number):
        """Where words have an in bit: first the sites from the middle on, last what has no site."""
        mirrored = n + self.bands.ins[at] - 1 - number
        back = self.reach + self.site - min(number, mirrored)
        if min(number, mirrored) >= n // 2:
            back = 2 * self.reach + 1 + number - n // 2
        end = 0
        if mirrored < number:
            end = 1
        return (2 * back + end) * len(self.bands.ins) + at


def site_of(place):
    """The site of the bit at a place."""
    if place < 0:
        return -1 - place
    return place


def distances(rule, out_extra, in_extra):
    """By how much the sites of two bits that a rule joins may differ; for points how far from the ends they end."""
    if rule[0] == POINT:
        return [site_of(rule[2]) + 1, site_of(rule[4]) + 1]
    if rule[0] == MIRROR:
        return [abs(rule[3] - out_extra), abs(rule[3] - in_extra)]
    return [abs(rule[3]), abs(rule[3] + out_extra - in_extra)]


def reach_of(bands):
    """By how much the sites of bits that a rule joins may differ; a site from which on all sites are alike."""
    found = [0]
    for rule in bands.rules:
        found = found + distances(rule, bands.outs[rule[1]], bands.ins[source_of(rule)])
    return max(found)


def rank_line(bands):
    """The Size of the rank."""
    sweep = Sweep(bands)
    values = [sweep.rank_at(n) for n in range(2 * sweep.reach)]
    seen = {}
    while sweep.rows not in seen:
        if sweep.site >= sweep.reach:
            seen[sweep.rows] = (sweep.site, sweep.dimension)
        middle = 2 * (sweep.site + sweep.reach)
        values = values + [sweep.rank_at(middle), sweep.rank_at(middle + 1)]
        sweep.take_site()
        if sweep.site == LONG_SWEEP:
            line = short_line(values)
            if line is not None:
                return line
    # Like rows lead on alike, so from here on the sweep comes round.
    site, rank = seen[sweep.rows]
    start = 2 * (site + sweep.reach)
    return Size(values[:start], values[start:], sweep.dimension - rank)


def short_line(values):
    """The Size with these values and a start and a period up to LONGEST; None if there is none.

    Rows may come round late although ranks have a short rhythm. Two short lines with as many equal values as a
    long sweep tells are the same.
    """
    for period in range(1, LONGEST + 1):
        gain = values[LONGEST + period] - values[LONGEST]
        if all([after - value == gain for value, after in zip(values[LONGEST:], values[LONGEST + period:])]):
            return Size(values[:LONGEST], values[LONGEST:LONGEST + period], gain)
    return None
