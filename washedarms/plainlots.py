"""Chains of the uses of a LOT, and the fewest washes of PLAIN laboratories.

In a PLAIN laboratory "may follow" goes through third stuffs, so the uses that
may follow one another, taken in one direction alone, are an order; its fewest
chains and its most unfollowed uses come of one greatest matching.
"""

from washedarms.courses import need_lot
from washedarms.errors import BadNumber, NeverClean, NotPlain
from washedarms.labs import need_lab, stuff_count
from washedarms.plain import ascends, is_between, is_tuple_of


def follows(lab):
    """For each stuff A and each stuff B whether B may follow A."""
    need_lab(lab)
    return tuple([tuple([behind is not None for behind in lab[0][touched]]) for touched in lab[0][0]])


def is_plain(lab):
    """Whether a LAB is PLAIN."""
    may = follows(lab)
    stuffs = list(range(stuff_count(lab)))
    for stuff in stuffs:
        if any([row[stuff] not in (None, lab[0][0][stuff]) for row in lab[0]]):
            return False
    return all([may[one][three] for one in stuffs for two in stuffs if may[one][two]
                for three in stuffs if may[two][three]])


def lot_chains(lab, lot):
    """A least number of CHAINS in which each USE of the LOT stands just once."""
    return fewest_chains(later_uses(lab, lot))


def unfollowed(lab, lot):
    """A greatest number of UNFOLLOWED USES of the LOT."""
    later = later_uses(lab, lot)
    ahead = greatest_matching(later)
    behind = {ahead[use]: use for use in ahead}
    # What alternating paths from the ends of chains come to tells one use of each chain (Koenig).
    seen = {}
    hit = {}
    to_do = [use for use in later if use not in behind]
    while to_do:
        use = to_do.pop()
        if use not in seen:
            seen[use] = True
            for other in later[use]:
                hit[other] = True
                to_do = to_do + [ahead[other]]
    return tuple([use for use in later if use in seen and use not in hit])


def width(lab, lot):
    """The WIDTH of a LOT."""
    return len(unfollowed(lab, lot))


def is_chains(lab, lot, paper):
    """Whether a value is an ascending tuple of CHAINS in which each USE of the LOT stands just once."""
    need_lab(lab)
    need_lot(lab, lot)
    if type(paper) is not tuple or not all([type(chain) is tuple and len(chain) > 0 for chain in paper]):
        return False
    told = [use for chain in paper for use in chain]
    if not all([is_use(lot, use) for use in told]) or sorted(told) != uses_of(lot):
        return False
    may = follows(lab)
    return ascends(paper) and all([may[chain[place][0]][chain[place + 1][0]] for chain in paper
                                   for place in range(len(chain) - 1)])


def is_unfollowed(lab, lot, paper):
    """Whether a value is an ascending tuple of USES of the LOT that are UNFOLLOWED."""
    need_lab(lab)
    need_lot(lab, lot)
    if type(paper) is not tuple or not all([is_use(lot, use) for use in paper]) or not ascends(paper):
        return False
    may = follows(lab)
    return not any([may[one[0]][other[0]] for one in paper for other in paper if one != other])


def fewest_washes(lab, lot, tools):
    """The fewest washes with which so many clean tools can touch all of a LOT between them."""
    need_lab(lab)
    need_lot(lab, lot)
    if not is_between(tools, 1, 24):
        raise BadNumber(tools)
    wide = width(lab, lot)
    if wide > tools and not any([surely_cleans(wash) for wash in lab[1]]):
        raise NeverClean()
    return max(0, wide - tools)


def surely_cleans(wash):
    """Whether a wash leaves the clean state alone, of each state."""
    return all([results == (0,) for results in wash[0]])


def uses_of(lot):
    """The USES of a LOT, ascending."""
    return [(stuff, number) for stuff, many in enumerate(lot) for number in range(many)]


def is_use(lot, value):
    """Whether a value is a USE of the LOT."""
    return (is_tuple_of(value, 2) and is_between(value[0], 0, len(lot) - 1)
            and is_between(value[1], 0, lot[value[0]] - 1))


def later_uses(lab, lot):
    """For each USE of a LOT of a PLAIN LAB the USES that may follow it, in one direction alone."""
    need_lab(lab)
    need_lot(lab, lot)
    if not is_plain(lab):
        raise NotPlain()
    may = follows(lab)
    uses = uses_of(lot)
    return {use: [other for other in uses if is_later(may, use, other)] for use in uses}


def is_later(may, use, other):
    """Whether the other USE is later: it may follow, and if each may follow the other it is the greater one."""
    if use == other or not may[use[0]][other[0]]:
        return False
    return use < other or not may[other[0]][use[0]]


def fewest_chains(later):
    """The fewest chains, ascending, in which each thing stands just once, each followed by one later than it.

    What is later than a thing must be later than all that the thing is later than.
    """
    ahead = greatest_matching(later)
    behind = {ahead[use]: use for use in ahead}
    chains = []
    for use in later:
        if use not in ahead:
            chain = [use]
            while chain[-1] in behind:
                chain = chain + [behind[chain[-1]]]
            chains = chains + [tuple(chain)]
    return tuple(sorted(chains))


def greatest_matching(later):
    """A greatest matching of USES with later ones, none twice on a side: for the later ones those ahead."""
    ahead = {}
    for use in later:
        match_use(later, ahead, use, {})
    return ahead


def match_use(later, ahead, use, tried):
    """Match a USE with a later one, others giving way where they can; whether it could be done."""
    for other in later[use]:
        if other not in tried:
            tried[other] = True
            if other not in ahead or match_use(later, ahead, ahead[other], tried):
                ahead[other] = use
                return True
    return False
