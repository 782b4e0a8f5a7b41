"""Two papers that contradict each other, and the row of them that is wrong."""

from washedarms.forms import need_standing
from washedarms.moves import moves_here
from washedarms.planchecks import leads_down, need_own, plan_own_fault, ranks_told
from washedarms.tablechecks import is_enough, lefts_told, stays_late, table_own_fault
from washedarms.ticks import standing_behind


def clash(task, standing, plan, table):
    """None unless both papers have rows of the STANDING that contradict each other; otherwise the row and the walk."""
    need_standing(task, standing)
    need_own("plan", plan_own_fault(task, plan))
    need_own("table", table_own_fault(task, table))
    ranks = ranks_told(plan)
    lefts = lefts_told(table)
    if standing not in ranks or standing not in lefts or not is_enough(lefts[standing], ranks[standing]):
        return None
    places = {row[0]: index for index, row in enumerate(plan)}
    others = {row[0]: index for index, row in enumerate(table)}
    walk = []
    while True:
        place, other = places[standing], others[standing]
        move = plan[place][1]
        late = table[other][2][moves_here(task, standing).index(move)]
        walk.append((move, late))
        behind = standing_behind(task, standing, move, late)
        if not leads_down(task, ranks, ranks[standing], behind):
            return ("plan", place, tuple(walk))
        if not stays_late(task, lefts, lefts[standing], behind):
            return ("table", other, tuple(walk))
        standing = behind
