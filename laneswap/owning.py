"""Own words of sets of spaces, their rest, and images that keep accesses free.

The functions here take what has been checked already; spaces are spaces within a rest, told by their indexes.
"""

from laneswap.reducing import grown
from laneswap.spaces import Space, outside_both


def other_sum(rest, spaces, chosen):
    """The sum of the spaces whose indexes are not chosen."""
    found = Space(rest.bits, ())
    for at, space in enumerate(spaces):
        # The whole rest grows no more.
        if at not in chosen and found.dimension < rest.dimension:
            found = found + space
    return found


def chosen_meet(rest, spaces, chosen):
    """The meet of the spaces whose indexes are chosen, the whole rest if none is."""
    if len(chosen) == 0:
        return rest
    found = spaces[chosen[0]]
    for at in chosen[1:]:
        found = found & spaces[at]
    return found


def own_words(rest, spaces, chosen):
    """The tuple of own words of the set of chosen indexes, where the rest stands for all words."""
    others = other_sum(rest, spaces, chosen)
    if others.dimension == rest.dimension:
        return ()
    # Rows of the meet that are independent of all other spaces complete what it shares with them.
    return others.completing(chosen_meet(rest, spaces, chosen))


def rest_of(rest, spaces, chosen, words):
    """The rest of own words of the chosen indexes: it contains all other spaces."""
    others = other_sum(rest, spaces, chosen)
    return Space(rest.bits, others.rows + Space(rest.bits, others.rows + words).completing(rest))


def taken_in_turn(rest, spaces, sets):
    """Own words of some sets, taken one after another: a dict of them, the rest of all, the spaces' meets with it."""
    found = {}
    for chosen in sets:
        words = own_words(rest, spaces, chosen)
        found[chosen] = words
        if words:
            rest = rest_of(rest, spaces, chosen, words)
            # Spaces that are not chosen lie in the rest.
            spaces = [space & rest if at in chosen else space for at, space in enumerate(spaces)]
    return found, rest, tuple(spaces)


def images_outside(sets, begun):
    """The list of images for own words, each told by its set of at most two indexes.

    begun has, for each access, reduced rows of the images of its words so far; each further image is independent
    of them. There is room for it where no access has more dimensions than an image bits.
    """
    rows = list(begun)
    found = []
    for chosen in sets:
        image = image_outside([rows[at] for at in chosen])
        for at in chosen:
            rows[at] = grown(rows[at], image)
        found.append(image)
    return found


def image_outside(rows):
    """A word that none of the lists of reduced rows spans, of which there are at most two; 0 if there are none."""
    if len(rows) == 0:
        return 0
    return outside_both(rows[0], rows[-1])
