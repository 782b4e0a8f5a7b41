"""Laboratories, tasks and wrong values that several tests use, and literal readings of the document."""

import random
from functools import lru_cache
from itertools import combinations, permutations, product

from washedarms.forms import start
from washedarms.lateness import lateness_table
from washedarms.plans import live_plan
from washedarms.tasks import is_task

# The least laboratory and the greatest one.
LEAST_LAB = (((0,),), (), 1, 1, 0)
GREAT_LAB = (
    ((1, 2, 3, 4, 5, 6, 7, 0),) + tuple(
        (None, (state + 1) % 8, None, state, 0, None, 7, None) for state in range(1, 8)),
    ((tuple(((0,), (0, 7), (0, 3, 7))[state % 3] for state in range(8)), 1, 1),
     (tuple((state,) for state in range(8)), 6, 6),
     (tuple((0,) for _ in range(8)), 1, 6)),
    3, 3, 4)
# The laboratory of the examples under "Washing".
DOC_LAB = (((1, 2), (1, None), (None, 2)), ((((0,), (0, 1), (0,)), 1, 3),), 2, 2, 2)
# The laboratory of the example under "Moves, ticks, runs and charts", and its TASK.
RUN_LAB = (((1, 0), (1, None)), ((((0,), (0,)), 1, 1),), 1, 1, 0)
RUN_TASK = (RUN_LAB, ((((0, (0,), (), 1, 2), (1, (0,), (), 1, 1)), (None, 1)),))

STEP = (0, (0, 1), (0,), 1, 2)
OTHER_STEP = (1, (1,), (0, 1), 2, 3)
TASK = (DOC_LAB, (((STEP, OTHER_STEP), (None, 1)), ((), ()), ((OTHER_STEP, STEP, STEP), (None, None, 0))))
GREAT_STEP = (7, (0, 1, 2), (0, 1, 2, 3), 6, 6)
GREAT_TASK = (GREAT_LAB, (((GREAT_STEP, (0, (2,), (), 1, 1), (1, (0,), (3,), 1, 6), (4, (0, 1, 2), (), 2, 6)),
                           (None, 6, 0, None)),) * 4)
# A TASK of more than 10 ** 12 STANDINGS.
HUGE_LAB = (((0,),) * 8, ((((0,),) * 8, 1, 6),) * 3, 3, 3, 0)
HUGE_STEP = (0, (0, 1, 2), (), 1, 6)
HUGE_TASK = (HUGE_LAB, (((HUGE_STEP,) * 4, (None, 6, 6, 6)),) * 4)
EMPTY_TASK = (LEAST_LAB, ())


class Odd:
    """Equal to everything, so that comparing ahead of looking at the kind is found out."""

    def __eq__(self, other):
        return True

    def __ne__(self, other):
        return False

    def __hash__(self):
        return 0

    def __lt__(self, other):
        return True

    __gt__ = __le__ = __ge__ = __lt__


# None of them is right anywhere where an integer or a tuple of the document is asked for.
NEVER_RIGHT = (True, False, "0", "", [], [0], {}, b"0", "step", 10 ** 40, -10 ** 40, 10 ** 900, object(), Odd(), -2)
NO_TUPLES = (None, True, 0, -1, "ab", "", [], [1, 2], {}, {1: 2}, b"ab", object(), Odd())


def places(value, place=()):
    """All places in nested tuples, a thing ahead of its parts, from the left."""
    found = [place]
    if type(value) is tuple:
        for index, part in enumerate(value):
            found += places(part, place + (index,))
    return found


def at(value, place):
    """What stands at a place of nested tuples."""
    for index in place:
        value = value[index]
    return value


def changed(value, place, new):
    """Nested tuples with another thing at a place."""
    if not place:
        return new
    index = place[0]
    return value[:index] + (changed(value[index], place[1:], new),) + value[index + 1:]


def random_lab(rng, states=None, stuffs=None, washes=None, tools=None, arms=None, zones=None):
    """Some LAB."""
    states = rng.randint(1, 4) if states is None else states
    stuffs = rng.randint(1, 3) if stuffs is None else stuffs
    washes = rng.randint(0, 3) if washes is None else washes
    meets = tuple(
        tuple(None if state > 0 and rng.random() < 0.4 else rng.randrange(states) for _ in range(stuffs))
        for state in range(states))
    rows = []
    for _ in range(washes):
        after = tuple(
            tuple(sorted(rng.sample(range(states), rng.randint(1, min(2, states))))) for _ in range(states))
        low = rng.randint(1, 2)
        rows.append((after, low, rng.randint(low, 3)))
    return (meets, tuple(rows), tools or rng.randint(1, 2), arms or rng.randint(1, 2),
            rng.randint(0, 2) if zones is None else zones)


def random_sample(rng, lab, steps=None):
    """Some SAMPLE of a LAB."""
    steps = rng.randint(0, 2) if steps is None else steps
    rows, windows = [], []
    for number in range(steps):
        low = rng.randint(1, 2)
        tools = tuple(sorted(rng.sample(range(lab[2]), rng.randint(1, lab[2]))))
        zones = tuple(sorted(rng.sample(range(lab[4]), rng.randint(0, min(1, lab[4])))))
        rows.append((rng.randrange(len(lab[0][0])), tools, zones, low, rng.randint(low, 3)))
        windows.append(rng.choice((None, 0, 1, 2)) if number else None)
    return (tuple(rows), tuple(windows))


def random_task(rng, samples=None, steps=None, **lab):
    """Some TASK."""
    one = random_lab(rng, **lab)
    many = rng.randint(0, 2) if samples is None else samples
    return (one, tuple(random_sample(rng, one, steps) for _ in range(many)))


def random_tasks(seed, many, **kinds):
    """Some TASKS, the same ones for a seed."""
    rng = random.Random(seed)
    return [random_task(rng, **kinds) for _ in range(many)]


def random_labs(seed, many, **kinds):
    """Some LABS, the same ones for a seed."""
    rng = random.Random(seed)
    return [random_lab(rng, **kinds) for _ in range(many)]


def literal_positions(sample):
    """POSITIONS, by the words of the document."""
    steps, windows = sample
    found = []
    for done in range(len(steps) + 1):
        for waited in range(8):
            counted = 1 <= done <= len(steps) - 1 and windows[done] is not None
            if waited == 0 or (counted and waited <= windows[done] + 1):
                found.append((done, waited))
    return found


def literal_jobs(task):
    """All things that may look like a JOB in a TASK."""
    lab, samples = task
    return [(), ("out",)] + [
        (word, which, gone) for word, many in (("step", len(samples)), ("wash", len(lab[1])))
        for which in range(many) for gone in range(1, 7)]


def literal_stands(task, rests, pairs):
    """Whether POSITIONS and pairs of states and things like JOBS are a STANDING, by [13] as a whole."""
    lab, samples = task
    running = [(tool, state, job) for tool, (state, job) in enumerate(pairs) if len(job) == 3]
    steps = [(tool, state, job[1], job[2]) for tool, state, job in running if job[0] == "step"]
    if len(running) > lab[3] or len({sample for _, _, sample, _ in steps}) < len(steps):
        return False
    zones = []
    for tool, state, sample, gone in steps:
        done, waited = rests[sample]
        if done == len(samples[sample][0]) or waited != 0:
            return False
        stuff, tools, used, low, high = samples[sample][0][done]
        if tool not in tools or lab[0][state][stuff] is None or gone > high - 1:
            return False
        zones += used
    if len(set(zones)) < len(zones):
        return False
    return all(job[2] <= lab[1][job[1]][2] - 1 for _, _, job in running if job[0] == "wash")


def literal_standings(task):
    """All STANDINGS of a small TASK, ascending."""
    lab, samples = task
    pairs = [(state, job) for state in range(len(lab[0])) for job in literal_jobs(task)]
    return sorted(
        (rests, row) for rests in product(*[literal_positions(sample) for sample in samples])
        for row in product(pairs, repeat=lab[2]) if literal_stands(task, rests, row))


def literal_broken(task, standing):
    """Whether a STANDING is broken, by [13]."""
    return any(1 <= done <= len(steps) - 1 and windows[done] is not None and waited == windows[done] + 1
               for (steps, windows), (done, waited) in zip(task[1], standing[0]))


def literal_done(task, standing):
    """Whether a STANDING is done, by [13]."""
    return all(done == len(steps) for (steps, windows), (done, waited) in zip(task[1], standing[0]))


def literal_moves(task, standing):
    """All MOVES, by [14]: of all rows of STARTS those that may stand."""
    lab, samples = task
    triples = [(tool, word, which) for tool in range(lab[2])
               for word, many in (("step", len(samples)), ("wash", len(lab[1]))) for which in range(many)]
    return tuple(sorted(
        move for many in range(lab[2] + 1) for move in combinations(triples, many)
        if literal_is_move(task, standing, move)))


def literal_is_move(task, standing, move):
    """Whether triples of existing numbers, ascending, are a MOVE, by [14]."""
    lab, samples = task
    running = [job for _, job in standing[1] if len(job) == 3]
    on = [job[1] for job in running if job[0] == "step"]
    begun = [which for _, word, which in move if word == "step"]
    if len({tool for tool, _, _ in move}) < len(move) or len(running) + len(move) > lab[3]:
        return False
    if any(standing[1][tool][1] != () for tool, _, _ in move) or len(set(on + begun)) < len(on + begun):
        return False
    if any(standing[0][sample][0] == len(samples[sample][0]) for sample in begun):
        return False
    for tool, word, which in move:
        if word == "step":
            step = samples[which][0][standing[0][which][0]]
            if tool not in step[1] or lab[0][standing[1][tool][0]][step[0]] is None:
                return False
    zones = [zone for sample in on + begun for zone in samples[sample][0][standing[0][sample][0]][2]]
    return len(set(zones)) == len(zones)


def literal_ticks(task, standing, move):
    """All pairs of a LATENESS of a MOVE and the STANDING it leads to, by [15], ascending."""
    lab, samples = task
    rests = [list(rest) for rest in standing[0]]
    pairs = [[state, list(job)] for state, job in standing[1]]
    for tool, word, which in move:
        pairs[tool][1] = [word, which, 0]
        if word == "step":
            rests[which][1] = 0
    on = [job[1] for _, job in pairs if job[:1] == ["step"]]
    for sample, (steps, windows) in enumerate(samples):
        done = rests[sample][0]
        if sample not in on and 1 <= done <= len(steps) - 1 and windows[done] is not None:
            rests[sample][1] += 1
    choices = []
    for tool, (state, job) in enumerate(pairs):
        if len(job) != 3:
            choices.append([None])
            continue
        job[2] += 1
        if job[0] == "step":
            stuff, _, _, low, high = samples[job[1]][0][rests[job[1]][0]]
            results = [lab[0][state][stuff]]
        else:
            after, low, high = lab[1][job[1]]
            results = list(after[state])
        choices.append((results if job[2] >= low else []) + ([None] if job[2] < high else []))
    found = []
    for row in product(*choices):
        behind_rests = [tuple(rest) for rest in rests]
        behind_pairs = [(state, tuple(job)) for state, job in pairs]
        for tool, result in enumerate(row):
            if result is not None:
                job = pairs[tool][1]
                if job[0] == "step":
                    behind_rests[job[1]] = (rests[job[1]][0] + 1, 0)
                behind_pairs[tool] = (result, ())
        lateness = tuple((tool, result) for tool, result in enumerate(row) if result is not None)
        found.append((lateness, (tuple(behind_rests), tuple(behind_pairs))))
    return sorted(found)


def literal_web(task, standing):
    """The STANDINGS that come from one, each with all that its MOVES and LATENESSES lead to."""
    web = {}
    ahead = [standing]
    while ahead:
        one = ahead.pop()
        if one in web:
            continue
        web[one] = []
        if not literal_done(task, one) and not literal_broken(task, one):
            for move in literal_moves(task, one):
                behind = [other for _, other in literal_ticks(task, one, move)]
                web[one].append(behind)
                ahead += behind
    return web


def literal_soonest(task, standing=None):
    """SOONEST of a STANDING, or of the START, by [61]: None if there is none."""
    standing = start(task) if standing is None else standing
    web = literal_web(task, standing)
    ranks = {one: 0 for one in web if literal_done(task, one)}
    rank = 0
    while standing not in ranks:
        rank += 1
        new = [one for one in web if one not in ranks
               and any(all(other in ranks for other in behind) for behind in web[one])]
        if not new:
            return None
        for one in new:
            ranks[one] = rank
    return ranks[standing]


def random_run(rng, task, standing, rows):
    """Some RUN of at most so many rows, and its STANDINGS."""
    run, found = (), (standing,)
    while len(run) < rows and not literal_broken(task, standing):
        move = rng.choice(literal_moves(task, standing))
        late, standing = rng.choice(literal_ticks(task, standing, move))
        run += ((move, late),)
        found += (standing,)
    return run, found


# A RUN of RUN_TASK from the START, its STANDINGS and its CHART.
RUN = ((((0, "step", 0),), ()), ((), ((0, 1),)), (((0, "wash", 0),), ((0, 0),)), (((0, "step", 0),), ((0, 0),)))
RUN_STANDINGS = ((((0, 0),), ((0, ()),)), (((0, 0),), ((0, ("step", 0, 1)),)), (((1, 0),), ((1, ()),)),
                 (((1, 1),), ((0, ()),)), (((2, 0),), ((0, ()),)))
RUN_CHART = ((0, 0, "step", 0, 2, 1), (2, 0, "wash", 0, 3, 0), (3, 0, "step", 0, 4, 0))
# No LOT of DOC_LAB, which has two stuffs.
WRONG_LOTS = NEVER_RIGHT + (None, 0, (), (1,), (1, 1, 1), [1, 1], (13, 0), (0, 13), (-1, 1), (1, -1), (12, 13), (True,
        0),
                            (0, False), (None, 0), (0, "1"), (0, (1,)), (10 ** 900, 0))
# No tuple of stuffs of DOC_LAB, which has the stuffs 0 and 1.
WRONG_ROWS = NEVER_RIGHT + (None, 0, [0], (2,), (-1,), (0, 2), (0, 1, -1), (True,), (None,), (0, "1"), ((0,),), (0,
        False),
                            (10 ** 900,))
# For washing as a game: laboratories, and LOTS small enough to try all ways.
GAME_LABS = [DOC_LAB] + random_labs(30, 12, states=3, stuffs=2, washes=1) + random_labs(
    31, 12, states=3, stuffs=2, washes=2)
GAME_LOTS = ((0, 0), (1, 0), (0, 1), (1, 1), (2, 1), (0, 2))


def nodes():
    """Triples of a LAB, a state and a LOT."""
    return [(lab, state, lot) for lab in GAME_LABS for state in range(len(lab[0])) for lot in GAME_LOTS]


def literal_deeds(lab, state, lot):
    """The DEEDS at a NODE: of each its cost and the NODES that it leads to."""
    found = {}
    if sum(lot):
        for stuff, uses in enumerate(lot):
            if uses and lab[0][state][stuff] is not None:
                less = tuple(many - (other == stuff) for other, many in enumerate(lot))
                found[0, stuff] = (0, [(lab[0][state][stuff], less)])
        for number, (after, _, high) in enumerate(lab[1]):
            found[1, number] = (high, [(one, lot) for one in after[state]])
    return found


@lru_cache(maxsize=None)
def keeps_to(lab, state, lot, ticks):
    """Whether some way of choosing surely keeps to so many ticks."""
    if ticks < 0:
        return False
    return sum(lot) == 0 or any(
        all(keeps_to(lab, *node, ticks - cost) for node in behind)
        for cost, behind in literal_deeds(lab, state, lot).values())


@lru_cache(maxsize=None)
def literal_washing(lab, state, lot):
    """WASHING: each touch needs at most one wash for each other state, so the look can be ended."""
    most = sum(lot) * len(lab[0]) * 3
    for ticks in range(most + 1):
        if keeps_to(lab, state, lot, ticks):
            return ticks
    return None


# Plans, tables, dues: literal readings over small TASKS.


@lru_cache(maxsize=None)
def literal_rows(task, standing):
    """For each MOVE at a live STANDING, in order: the MOVE and what literal_ticks tells of it."""
    if literal_done(task, standing) or literal_broken(task, standing):
        return ()
    return tuple((move, tuple(literal_ticks(task, standing, move))) for move in literal_moves(task, standing))


def literal_met(first, rows_at):
    """All nodes in the order in which they are first met, and the counts of nodes and triples behind each one."""
    nodes, counts, triples = {first: 0}, [], 0
    ahead = [first]
    for node in ahead:
        for _, ends in rows_at(node):
            for _, behind in ends:
                triples += 1
                if behind is not None and behind not in nodes:
                    nodes[behind] = len(nodes)
                    ahead.append(behind)
        counts.append((len(nodes), triples))
    return tuple(nodes), counts


def literal_ranks(task, standing):
    """RANKS of all of the WEB by [61], round by round."""
    web = literal_met(standing, lambda one: literal_rows(task, one))[0]
    ranks = {one: 0 for one in web if literal_done(task, one)}
    for rank in range(1, len(web) + 1):
        new = [one for one in web if one not in ranks and any(
            all(behind in ranks for _, behind in ends) for _, ends in literal_rows(task, one))]
        ranks.update((one, rank) for one in new)
        if not new:
            break
    return {one: ranks.get(one) for one in web}


@lru_cache(maxsize=None)
def literal_in_time(task, standing, ticks):
    """Whether some way of choosing MOVES is surely done within so many ticks."""
    if literal_done(task, standing) or ticks == 0:
        return literal_done(task, standing)
    return any(all(literal_in_time(task, behind, ticks - 1) for _, behind in ends)
               for _, ends in literal_rows(task, standing))


@lru_cache(maxsize=None)
def small_tasks(seed, many, most, **kinds):
    """Some TASKS with small WEBS, from the first to the last that are found with a seed."""
    rng = random.Random(seed)
    found = []
    while len(found) < many:
        task = random_task(rng, **kinds)
        if standings_within(task, start(task), most):
            found.append(task)
    return tuple(found)


def standings_within(task, standing, most):
    """Whether no more than so many STANDINGS come from one."""
    found, ahead = {standing}, [standing]
    for one in ahead:
        for _, ends in literal_rows(task, one):
            for _, behind in ends:
                if behind not in found:
                    found.add(behind)
                    ahead.append(behind)
        if len(found) > most:
            return False
    return True


# The TASK of the example under "Checkers of papers": a tool that is washed behind its only stuff.
PAPER_LAB = (((1,), (None,)), ((((0,), (0,)), 1, 2),), 1, 1, 0)
PAPER_TASK = (PAPER_LAB, ((((0, (0,), (), 1, 2),), (None,)),))
# No wash: the second step can never begin.
STUCK_TASK = (((((1, 0), (1, None))), (), 1, 1, 0), ((((0, (0,), (), 1, 2), (1, (0,), (), 1, 1)), (None, 1)),))
# Two samples for one tool; who waits too long is broken.
WINDOW_TASK = (RUN_LAB, ((((0, (0,), (), 1, 2), (1, (0,), (), 1, 1)), (None, 2)), (((0, (0,), (), 1, 1),), (None,))))
# A wash that may leave the tool as it was, so that no plan surely ends, but some end with luck.
LUCK_TASK = (((((1,), (None,))), ((((0,), (0, 1)), 1, 1),), 1, 1, 0), ((((0, (0,), (), 1, 1),), (None,)),) * 2)
SMALL_TASKS = (RUN_TASK, PAPER_TASK, STUCK_TASK, WINDOW_TASK, LUCK_TASK, EMPTY_TASK) + small_tasks(
    200, 10, 60, samples=1, steps=2, states=2, washes=1) + small_tasks(
    201, 8, 90, samples=2, steps=1, tools=2, zones=1, washes=1) + small_tasks(
    202, 8, 90, samples=2, tools=1, washes=1) + small_tasks(203, 4, 120, samples=2, steps=2, tools=1, washes=1)


@lru_cache(maxsize=None)
def some_standings(task, many):
    """The START, some STANDINGS that come, and some others, among them broken ones and tools out of use."""
    rng = random.Random(many)
    web = literal_met(start(task), lambda one: literal_rows(task, one))[0]
    found = list(web[:1]) + rng.sample(web, min(many, len(web)))
    tools = task[0][2]
    for _ in range(many):
        rests, pairs = rng.choice(web)
        tool = rng.randrange(tools)
        if len(pairs[tool][1]) != 3:
            found.append((rests, changed(pairs, (tool, 1), ("out",))))
        for sample, (done, waited) in enumerate(rests):
            steps, windows = task[1][sample]
            idle = all(job[:2] != ("step", sample) for _, job in pairs)
            if idle and 1 <= done < len(steps) and windows[done] is not None:
                found.append((changed(rests, (sample, 1), rng.randint(0, windows[done] + 1)), pairs))
        found.append((tuple((len(steps), 0) for steps, _ in task[1]), ((0, ()),) * tools))
    return tuple(one for one in dict.fromkeys(found) if standings_within(task, one, 400))


def wash_task(states, spans, results=(1, 1, 1), tools=2, high=1, named=(0, 1)):
    """A TASK of one sample of one step with a great WEB: any tool may be washed from each state into others."""
    meets = tuple(((state + 1) % states,) for state in range(states))
    washes = tuple((tuple(tuple(sorted({(state + 1 + number + more) % states for more in range(results[number])}))
                          for state in range(states)), 1, span) for number, span in enumerate(spans))
    return ((meets, washes, tools, tools, 0), ((((0, named, (), 1, high),), (None,)),))


# Of each of these pairs the one has a little less than a search may meet, the other one a little more: of STANDINGS
# 18368 and 20416, of triples 197568 and 200704.
MANY_STANDINGS = (wash_task(8, (6, 6, 6)), wash_task(8, (6, 6, 6), high=2))
MANY_TRIPLES = (wash_task(7, (1, 1, 1), (2, 2, 3), 3, 1, (0,)), wash_task(8, (1, 1, 1), (2, 2, 2), 3, 1, (0,)))


def literal_freed(task, standing, dues):
    """The pair of the FREED TASK and the freed STANDING, by [65]."""
    samples = tuple((steps, (None,) * len(steps)) if due == -1 else (steps, windows)
                    for (steps, windows), due in zip(task[1], dues))
    rests = tuple((done, 0) if due == -1 else (done, waited) for (done, waited), due in zip(standing[0], dues))
    return (task[0], samples), (rests, standing[1])


def literal_claim(game, dues, standing):
    """The claim behind a tick that led to a STANDING, None if it is lost, by [65]."""
    left = []
    for due, (steps, _), (done, _) in zip(dues, game[1], standing[0]):
        left.append(-1 if due == -1 or done == len(steps) else due - 1)
    return None if 0 in left or literal_broken(game, standing) else (standing, tuple(left))


@lru_cache(maxsize=None)
def literal_claim_rows(game, claim, goes_on=False):
    """For each MOVE, in order: it, and its LATENESSES with the claims behind, None of a lost one; nothing if kept."""
    standing, dues = claim
    if not goes_on and all(due == -1 for due in dues):
        return ()
    return tuple((move, tuple((late, literal_claim(game, dues, behind))
                              for late, behind in literal_ticks(game, standing, move)))
                 for move in literal_moves(game, standing))


@lru_cache(maxsize=None)
def literal_kept(game, claim):
    """Whether a claim, None being a lost one, can be kept: some plan never loses it, whatever comes late."""
    if claim is None:
        return False
    return all(due == -1 for due in claim[1]) or any(
        all(literal_kept(game, behind) for _, behind in ends) for _, ends in literal_claim_rows(game, claim))


def literal_can_be_kept(task, standing, dues):
    """Whether DUES of a STANDING can be kept."""
    game, here = literal_freed(task, standing, dues)
    return not literal_broken(game, here) and literal_kept(game, (here, dues))


def some_dues(rng, task, standing, many, most):
    """Some DUES of a STANDING, mostly small."""
    rows = [tuple(-1 if done == len(steps) or rng.random() < 0.3 else rng.randint(1, most)
                  for (steps, _), (done, _) in zip(task[1], standing[0])) for _ in range(many)]
    return tuple(dict.fromkeys(rows + [(-1,) * len(task[1])]))


def near_values(value, rng, many):
    """Nested tuples with a part left out, doubled, exchanged or changed, or another kind of thing in some place."""
    found = []
    for place in rng.sample(places(value)[1:], min(many, len(places(value)) - 1)):
        part, above = at(value, place), at(value, place[:-1])
        index = place[-1]
        found.append(changed(value, place[:-1], above[:index] + above[index + 1:]))
        found.append(changed(value, place[:-1], above[:index + 1] + above[index:]))
        found.append(changed(value, place[:-1], above[:index] + above[index:index + 2][::-1] + above[index + 2:]))
        if type(part) is int:
            found += [changed(value, place, part + more) for more in (-1, 1)]
            found.append(changed(value, place, part == 1))
        if type(part) is tuple:
            found.append(changed(value, place, list(part)))
        found.append(changed(value, place, rng.choice(NEVER_RIGHT + (None,))))
    return found


def is_plain(value):
    """Whether a value is told as [1] says: of plain kinds throughout."""
    if type(value) is tuple:
        return all(is_plain(part) for part in value)
    return type(value) in (int, str, type(None))


def refused(test, error, kept, call, *args):
    """Check that a call raises just this error, and what it keeps."""
    with test.assertRaises(error) as caught:
        call(*args)
    test.assertIs(type(caught.exception), error)
    for name, value in kept.items():
        told = getattr(caught.exception, name)
        test.assertTrue(told is value or (type(told) is type(value) and told == value), (call.__name__, name, told))


# Of RUN_TASK: a LIVE PLAN and a TABLE OF LATENESS, a broken STANDING, and one with the tool out of use.
RUN_PLAN = ((RUN_STANDINGS[0], ((0, "step", 0),), 4), (RUN_STANDINGS[1], (), 3),
            (RUN_STANDINGS[2], ((0, "wash", 0),), 2), (RUN_STANDINGS[3], ((0, "step", 0),), 1))
RUN_TABLE = ((RUN_STANDINGS[0], 3, ((), (), ((0, 0),))), (RUN_STANDINGS[1], 2, (((0, 1),),)),
             (RUN_STANDINGS[2], 1, ((), ((0, 0),))), (RUN_STANDINGS[3], 0, ()),
             ((((1, 1),), ((1, ()),)), None, ((), ((0, 0),))))
RUN_BROKEN, RUN_OUT = (((1, 2),), ((1, ()),)), (((0, 0),), ((0, ("out",)),))


def wide_plans(task):
    """Plan papers with rows of all STANDINGS that come and have a plan, their RANKS with gaps between them."""
    rows = {}
    for one in literal_met(start(task), lambda one: literal_rows(task, one))[0]:
        for row in live_plan(task, one) or ():
            rows[row[0]] = row
    plan = tuple(rows[one] for one in sorted(rows))
    # Any MOVE whose STANDINGS have lesser RANKS serves as well.
    other = []
    for one, move, rank in plan:
        serving = [told for told, ends in literal_rows(task, one) if all(
            literal_done(task, behind) or behind in rows and rows[behind][2] < rank for _, behind in ends)]
        other.append((one, serving[-1], rank))
    return plan, tuple(other), tuple((one, move, 3 * rank + 2) for one, move, rank in other)


def wide_tables(task):
    """Table papers with rows of all STANDINGS that come and are live, some with lesser LEFTS than they could have."""
    rows = {}
    for one in literal_met(start(task), lambda one: literal_rows(task, one))[0]:
        for row in lateness_table(task, one, 0) or ():
            rows[row[0]] = row
    table = tuple(rows[one] for one in sorted(rows))
    early = tuple((one, left if left is None else max(left - 1, 0), () if left in (0, 1) else answers)
                  for one, left, answers in table)
    # Halves of what they could be; 9 in the place of for ever.
    return table, early, tuple((one, 9 if left is None else max(left // 2, min(left, 1)), answers)
                               for one, left, answers in table)


# Values that are no STANDING of any TASK above.
WRONG_STANDINGS = NO_TUPLES + ((), ((), ()), (((0, 0),),), ((True, 0), (0, ())))


# ORDERS: literal readings, and some of them.


def job_names(order):
    """The names of all jobs, ascending."""
    return [(tool, place) for tool, row in enumerate(order[0]) for place in range(len(row))]


def literal_links(task, order):
    """The LINKS, by [602]."""
    rows, holds = order
    things = {(tool, place): thing for tool, row in enumerate(rows) for place, thing in enumerate(row)}
    triples = [(first, 0, later) for first in things for later in things
               if first[0] == later[0] and first[1] + 1 == later[1]]
    triples += [(first, 0, later) for first in things for later in things
                if things[first][0] == things[later][0] == "step" and things[first][1] == things[later][1]
                and things[first][2] + 1 == things[later][2]]
    triples += list(holds)
    greatest = {}
    for first, gap, later in triples:
        greatest[first, later] = max(gap, greatest.get((first, later), -1))
    triples = [(first, gap, later) for (first, later), gap in greatest.items()]
    triples += [((), 0, job) for job in things if all(later != job for _, _, later in triples)]
    return tuple(sorted(triples))


def literal_led(task, order):
    """For each job the jobs that it is led to, by going on until nothing new comes."""
    links = literal_links(task, order)
    led = {job: {later for first, _, later in links if first == job} for job in job_names(order)}
    while True:
        more = {job: led[job].union(*[led[other] for other in led[job]]) for job in led}
        if more == led:
            return led
        led = more


def literal_order_fault(task, order):
    """The fault of an ORDER, by [603]."""
    rows, _ = order
    lab, samples = task
    jobs = job_names(order)
    things = {job: rows[job[0]][job[1]] for job in jobs}
    for sample, (steps, _) in enumerate(samples):
        for step in range(len(steps)):
            if list(things.values()).count(("step", sample, step)) != 1:
                return ("steps", sample, step)
    steps = {job: samples[thing[1]][0][thing[2]] for job, thing in things.items() if thing[0] == "step"}
    for job in jobs:
        if job in steps and job[0] not in steps[job][1]:
            return ("let", job)
    led = literal_led(task, order)
    if any(job in led[job] for job in jobs):
        return ("ring",)
    for tool, row in enumerate(rows):
        states = {0}
        for place, thing in enumerate(row):
            if thing[0] == "wash":
                states = {one for state in states for one in lab[1][thing[1]][0][state]}
            else:
                states = {lab[0][state][steps[tool, place][0]] for state in states}
                if None in states:
                    return ("state", (tool, place))
    for job, other in combinations(jobs, 2):
        if job in steps and other in steps and set(steps[job][2]) & set(steps[other][2]):
            if other not in led[job] and job not in led[other]:
                return ("zones", job, other)
    for some in combinations(jobs, lab[3] + 1):
        if not any(other in led[job] for job in some for other in some):
            return ("arms", some)
    return None


def random_order(rng, task):
    """Some ORDER of a TASK, often a SOUND one: steps in turn, washes where they are needed."""
    lab, samples = task
    rows = [[] for _ in range(lab[2])]
    states = [{0} for _ in range(lab[2])]
    left = [sample for sample, (steps, _) in enumerate(samples) for _ in steps]
    rng.shuffle(left)
    done = [0] * len(samples)
    for sample in left:
        step = samples[sample][0][done[sample]]
        tool = rng.choice(step[1])
        for _ in range(3):
            if lab[1] and (any(lab[0][state][step[0]] is None for state in states[tool]) or rng.random() < 0.08):
                wash = rng.randrange(len(lab[1]))
                rows[tool].append(("wash", wash))
                states[tool] = {one for state in states[tool] for one in lab[1][wash][0][state]}
        rows[tool].append(("step", sample, done[sample]))
        states[tool] = {lab[0][state][step[0]] for state in states[tool]} - {None} or {0}
        done[sample] += 1
    jobs = [(tool, place) for tool, row in enumerate(rows) for place in range(len(row))]
    holds = {}
    for _ in range(rng.choice((0, 0, 1, 2, 4))):
        if jobs:
            holds[rng.choice([()] * 3 + jobs), rng.choice(jobs)] = rng.choice((0, 1, 2, 5))
    return (tuple(tuple(row) for row in rows),
            tuple(sorted((first, gap, later) for (first, later), gap in holds.items())))


@lru_cache(maxsize=None)
def some_orders(seed, many, sound, **kinds):
    """Some TASKS with ORDERS, all SOUND or none; those of a SOUND one of few enough FATES."""
    rng = random.Random(seed)
    found = []
    while len(found) < many:
        task = random_task(rng, **kinds)
        order = random_order(rng, task)
        if (literal_order_fault(task, order) is None) == sound and order[0] != ((),) * task[0][2]:
            if not sound or 1 < fate_count(task, order) < 700:
                found.append((task, order))
    return tuple(found)


def job_span(task, order, job):
    """LOW and HIGH of a job."""
    thing = order[0][job[0]][job[1]]
    return task[1][thing[1]][0][thing[2]][3:] if thing[0] == "step" else task[0][1][thing[1]][1:]


def fate_count(task, order):
    """More than there are FATES, or as many."""
    count = 1
    for job in job_names(order):
        low, high = job_span(task, order, job)
        count *= (high - low + 1) * (3 if order[0][job[0]][job[1]][0] == "wash" else 1)
    return count


def all_fates(task, order):
    """All FATES, by [604]."""
    rows = []
    for tool, row in enumerate(order[0]):
        found = [((), 0)]
        for place, thing in enumerate(row):
            low, high = job_span(task, order, (tool, place))
            longer = []
            for told, state in found:
                if thing[0] == "wash":
                    behind = task[0][1][thing[1]][0][state]
                else:
                    behind = (task[0][0][state][task[1][thing[1]][0][thing[2]][0]],)
                longer += [(told + ((ticks, pick),), one) for ticks in range(low, high + 1)
                           for pick, one in enumerate(behind)]
            found = longer
        rows.append([told for told, _ in found])
    return list(product(*rows))


def literal_begins(task, order, fate):
    """For each job the ticks at which it begins and ends, by [604]."""
    links = literal_links(task, order)
    spans = {}
    while len(spans) < len(job_names(order)):
        for job in job_names(order):
            into = [(first, gap) for first, gap, later in links if later == job]
            if job not in spans and all(first == () or first in spans for first, _ in into):
                begin = max(gap if first == () else spans[first][1] + gap for first, gap in into)
                spans[job] = (begin, begin + fate[job[0]][job[1]][0])
    return spans


def literal_ways(task, order, job):
    """All WAYS to a job, ascending, by [605]."""
    found = []
    for first, _, later in literal_links(task, order):
        if later == job:
            found += [()] if first == () else [way + (first,) for way in literal_ways(task, order, first)]
    return sorted(found)


def job_of_step(order, sample, step):
    """The job of a step of a SOUND ORDER."""
    return [job for job in job_names(order) if order[0][job[0]][job[1]] == ("step", sample, step)][0]


# The example under "Orders, worst waits, timetables, lists".
TWO_LAB = (((0,),), (), 2, 2, 0)
TWO_SAMPLE = (((0, (0, 1), (), 1, 2), (0, (0, 1), (), 1, 1)), (None, 1))
TWO_TASK = (TWO_LAB, (TWO_SAMPLE, TWO_SAMPLE))
TWO_ORDER = (((("step", 0, 0), ("step", 0, 1), ("step", 1, 1)), (("step", 1, 0),)), ())
HELD_ORDER = (TWO_ORDER[0], (((), 1, (1, 0)),))
# An ORDER of RUN_TASK with a wash.
RUN_ORDER = (((("step", 0, 0), ("wash", 0), ("step", 0, 1)),), ())
SOUND_ORDERS = ((TWO_TASK, TWO_ORDER), (TWO_TASK, HELD_ORDER), (RUN_TASK, RUN_ORDER),
                (EMPTY_TASK, (((),), ()))) + some_orders(
    500, 12, True, samples=2, steps=2, tools=2) + some_orders(
    501, 12, True, samples=3, steps=2, tools=2, arms=2) + some_orders(
    502, 8, True, samples=3, steps=2, tools=3, arms=3) + some_orders(503, 6, True, samples=2, steps=2, tools=1)
OTHER_ORDERS = some_orders(504, 60, False, samples=2, steps=2, tools=2) + some_orders(
    505, 40, False, samples=3, steps=2, tools=3, arms=2) + some_orders(
    506, 20, False, samples=3, steps=1, zones=2, tools=3, arms=3)


# Renamings, covers and partings: literal readings.


def all_renamings(task):
    """All RENAMINGS of a TASK."""
    return [(samples, tools) for samples in permutations(range(len(task[1])))
            for tools in permutations(range(task[0][2]))]


def at_new_numbers(things, numbers):
    """Things put one by one at their new numbers."""
    found = list(things)
    for number, thing in zip(numbers, things):
        found[number] = thing
    return tuple(found)


def renamed_task_literally(task, renaming):
    """The renamed TASK, by [701]."""
    samples, tools = renaming
    rows = [(tuple((stuff, tuple(sorted(tools[tool] for tool in named)), zones, low, high)
                   for stuff, named, zones, low, high in steps), windows) for steps, windows in task[1]]
    return (task[0], at_new_numbers(rows, samples))


def renamed_standing_literally(standing, renaming):
    """The renamed STANDING, by [701]."""
    samples, tools = renaming
    pairs = [(state, (job[0], samples[job[1]], job[2]) if job[:1] == ("step",) else job) for state, job in standing[1]]
    return (at_new_numbers(standing[0], samples), at_new_numbers(pairs, tools))


def renamed_move_literally(move, renaming):
    """The renamed MOVE, by [701]."""
    samples, tools = renaming
    return tuple(sorted((tools[tool], word, samples[which] if word == "step" else which)
                        for tool, word, which in move))


def renamed_late_literally(late, renaming):
    """The renamed LATENESS, by [701]."""
    return tuple(sorted((renaming[1][tool], state) for tool, state in late))


# TASKS with many SYMMETRIES, each with few STANDINGS that come.
EVEN_LAB = (((1,), (0,)), ((((0,), (0, 1)), 1, 1),), 2, 2, 0)
EVEN_SAMPLE = (((0, (0, 1), (), 1, 2),), (None,))
TWIN_TASK = (EVEN_LAB, (EVEN_SAMPLE,) * 2)
THREE_LAB = (((0,),), (), 3, 2, 1)
THREE_TASK = (THREE_LAB, ((((0, (0, 1, 2), (), 1, 1), (0, (0, 1, 2), (0,), 1, 2)), (None, 1)),) * 2)
# The samples are unlike, but the tools are not.
TOOL_TASK = (EVEN_LAB, (EVEN_SAMPLE, (((0, (0, 1), (), 1, 1),), (None,))))
# The tools change with the samples.
CROSS_TASK = ((((0,),), ((((0,),), 1, 2),), 2, 2, 0), (
    (((0, (0,), (), 1, 2), (0, (1,), (), 1, 1)), (None, 1)), (((0, (1,), (), 1, 2), (0, (0,), (), 1, 1)), (None, 1))))
# A TASK with SYMMETRIES and no plan: each sample needs the tool that the other one makes useless.
STUCK_TWINS = (((((1,), (None,))), (), 1, 1, 0), ((((0, (0,), (), 1, 2),), (None,)),) * 2)
EVEN_TASKS = (TWIN_TASK, THREE_TASK, TOOL_TASK, CROSS_TASK, STUCK_TWINS, TWO_TASK)


@lru_cache(maxsize=None)
def literal_symmetries(task):
    """All SYMMETRIES, by [702], ascending."""
    return tuple(one for one in all_renamings(task) if renamed_task_literally(task, one) == task)


@lru_cache(maxsize=None)
def literal_form(task, standing):
    """The form of a STANDING, by [702]."""
    return min(renamed_standing_literally(standing, one) for one in literal_symmetries(task))


@lru_cache(maxsize=None)
def literal_comings(task):
    """All STANDINGS that come, by [308]."""
    return literal_met(start(task), lambda one: literal_rows(task, one))[0]


@lru_cache(maxsize=None)
def literal_pair_word(task, standing, other, place):
    """What a pair of STANDINGS is, by [704]."""
    if literal_done(task, standing) or literal_broken(other, place):
        return "good"
    return "bad" if literal_broken(task, standing) or literal_done(other, place) else "live"


def literal_pairs(task, standing, other, place):
    """All pairs that come from one, going on from live ones alone."""
    found, ahead = {(standing, place)}, [(standing, place)]
    for one, two in ahead:
        if literal_pair_word(task, one, other, two) == "live":
            ones = {behind for _, ends in literal_rows(task, one) for _, behind in ends}
            for pair in product(ones, {behind for _, ends in literal_rows(other, two) for _, behind in ends}):
                if pair not in found:
                    found.add(pair)
                    ahead.append(pair)
    return found


def literal_answers(task, one, other, table, behind):
    """The MOVES at a STANDING that answer a MOVE that leads to these STANDINGS, by [705]."""
    return [move for move, ends in literal_rows(task, one) if all(any(
        (left, right) in table or literal_pair_word(task, left, other, right) == "good" for right in behind)
        for _, left in ends)]


def literal_is_covered(task, other, table, pair):
    """Whether a pair keeps the rule of [705] by a table."""
    word = literal_pair_word(task, pair[0], other, pair[1])
    return word == "good" or (word == "live" and all(
        literal_answers(task, pair[0], other, table, [right for _, right in ends])
        for _, ends in literal_rows(other, pair[1])))


def literal_cover(task, standing, other, place):
    """All live pairs that come from one and are in some COVER, by dropping pairs until none breaks the rule."""
    pairs = literal_pairs(task, standing, other, place)
    left = {pair for pair in pairs if literal_pair_word(task, pair[0], other, pair[1]) == "live"}
    while True:
        kept = {pair for pair in left if literal_is_covered(task, other, left, pair)}
        if kept == left:
            return kept
        left = kept


def literal_parting_step(task, other, pair, below):
    """The first MOVE and the first ANSWERS with which all that comes of a pair is below, by [709]; None if none are."""
    for move, ends in literal_rows(other, pair[1]):
        answers = []
        for _, lefts in literal_rows(task, pair[0]):
            serving = [late for late, left in lefts if all((left, right) in below for _, right in ends)]
            answers += serving[:1]
        if len(answers) == len(literal_rows(task, pair[0])):
            return move, tuple(answers)
    return None


def literal_parting(task, standing, other, place):
    """The PARTING that is told of a pair that is not live and good, nor in a COVER, by [709]; None otherwise."""
    pairs = literal_pairs(task, standing, other, place)
    words = {pair: literal_pair_word(task, pair[0], other, pair[1]) for pair in pairs}
    below = {pair for pair in pairs if words[pair] == "bad"}
    rows, rank = {}, 0
    while True:
        rank += 1
        new = {}
        for pair in pairs - below:
            step = literal_parting_step(task, other, pair, below) if words[pair] == "live" else None
            if step is not None:
                new[pair] = pair + (rank,) + step
        if not new:
            break
        rows.update(new)
        below |= set(new)
    if (standing, place) not in below:
        return None
    told, ahead = {}, [(standing, place)]
    for pair in ahead:
        if pair in rows and pair not in told:
            told[pair] = rows[pair]
            lefts = [dict(ends)[answer] for (_, ends), answer in zip(literal_rows(task, pair[0]), rows[pair][4])]
            rights = [right for _, right in dict(literal_rows(other, pair[1]))[rows[pair][3]]]
            ahead += list(product(lefts, rights))
    return tuple(told[pair] for pair in sorted(told))


# Pairs of TASKS with few pairs of STANDINGS, among them some with one thing changed.
def near_task(rng, task):
    """A TASK with one thing changed."""
    for _ in range(100):
        other = rng.choice(near_values(task, rng, 1))
        if is_plain(other) and is_task(other) and other != task:
            return other
    return task


@lru_cache(maxsize=None)
def task_pairs(seed, many, most):
    """Some pairs of TASKS, as unlike as they may be or with one thing changed, of which no more pairs come."""
    rng = random.Random(seed)
    found = []
    while len(found) < many:
        one = rng.choice(SMALL_TASKS + EVEN_TASKS)
        two = rng.choice((rng.choice(SMALL_TASKS), near_task(rng, one), one))
        if standings_within(one, start(one), most) and standings_within(two, start(two), most):
            found.append((one, two) if rng.random() < 0.5 else (two, one))
    return tuple(found)


# The example under "Renamings, covers and partings": A takes 2 ticks, or 1; the stuffs of X, A and C are 0, 1 and 2.
X_LAB = (((1, 0, 0), (0, 0, None)), ((((0,), (0,)), 2, 2),), 2, 2, 0)
X_TASKS = tuple((X_LAB, ((((0, (0,), (), 1, 1), (1, (1,), (), ticks, ticks), (2, (0,), (), 1, 1)), (None, 0, 0)),))
                for ticks in (2, 1))


# The house and its logs: literal readings.
EMPTY_SLOT = ((), ())
# Two tools of which each does each step, slowly.
SLOW_LAB = (((1, 0), (1, 1)), ((((0,), (0,)), 2, 3),), 2, 2, 0)
SLOW_SAMPLE = (((0, (0, 1), (), 2, 3), (1, (0, 1), (), 1, 2)), (None, 3))
# A tool that is washed for 1 to 2 ticks; steps with a window, a zone, a choice of tools, and short ones.
HOUSE_LAB = (((1, 0), (1, None)), ((((0,), (0,)), 1, 2),), 2, 2, 1)
LONG_SAMPLE = (((0, (0, 1), (), 1, 2), (1, (0,), (0,), 1, 1)), (None, 2))
SHORT_SAMPLE = (((1, (1,), (), 1, 1),), (None,))
ZONE_SAMPLE = (((0, (0,), (0,), 1, 1), (1, (0, 1), (), 1, 1)), (None, 0))
# A tool that nothing washes but a step: the first stuff makes it useless for itself, the second one cleans it.
STEP_LAB = (((1, 0), (None, 0)), (), 1, 1, 0)
DIRTY_SAMPLE, CLEAN_SAMPLE = (((0, (0,), (), 1, 1),), (None,)), (((1, (0,), (), 1, 2),), (None,))
# The second sample is needed by the third one, also when it is free.
NEEDED_EVENTS = (("ask", DIRTY_SAMPLE), ("ask", CLEAN_SAMPLE), ("ask", DIRTY_SAMPLE), ("take", 1), ("waive", 1),
                 ("take", 1), ("take", 0), ("tick", ()), ("take", 1))
# A wash that may leave the tool as it was: nothing that needs it can be promised.
LUCK_LAB = ((((1,), (None,))), ((((0,), (0, 1)), 1, 1),), 1, 1, 0)


class LiteralHouse:
    """A HOUSE as [801] to [804] tell of it: for each slot that isn't empty what is known of its sample."""

    def __init__(self, house):
        self.lab, slots, (rests, pairs), dues, told, self.count = house
        self.tools = [list(pair) for pair in pairs]
        self.slots = {}
        for number, slot in told:
            steps, windows = slots[slot]
            self.slots[slot] = {"number": number, "steps": steps, "windows": windows, "done": rests[slot][0],
                                "waited": rests[slot][1], "due": dues[slot]}

    def told(self):
        """The HOUSE."""
        task, standing, dues = self.claim()
        numbers = tuple(sorted((one["number"], slot) for slot, one in self.slots.items()))
        return (self.lab, task[1], standing, dues, numbers, self.count)

    def claim(self):
        """The TASK, the STANDING and the DUES."""
        rows = [self.slots.get(slot) for slot in range(4)]
        samples = tuple((one["steps"], one["windows"]) if one else EMPTY_SLOT for one in rows)
        rests = tuple((one["done"], one["waited"]) if one else (0, 0) for one in rows)
        dues = tuple(one["due"] if one else -1 for one in rows)
        return (self.lab, samples), (rests, tuple(tuple(pair) for pair in self.tools)), dues

    def can_keep(self, **dues):
        """Whether the claim can be kept."""
        return literal_can_be_kept(*self.claim())

    def slot_of(self, number):
        """The slot of a sample, None if there is none."""
        return {one["number"]: slot for slot, one in self.slots.items()}.get(number)

    def runs(self, slot):
        """Whether a step of the sample in a slot runs."""
        return any(job[:2] == ("step", slot) for _, job in self.tools)

    def put(self, sample, due):
        """Take a sample in."""
        slot = min(set(range(4)) - set(self.slots))
        self.slots[slot] = {"number": self.count, "steps": sample[0], "windows": sample[1], "done": 0, "waited": 0,
                            "due": due}
        self.count += 1
        return slot

    def free(self, slot):
        """The sample is free from now on."""
        self.slots[slot].update(due=-1, waited=0, windows=(None,) * len(self.slots[slot]["steps"]))

    def ask(self, sample):
        """The words for an asked sample."""
        if len(self.slots) == 4:
            return (("full",),)
        number = self.count
        slot = self.put(sample, 1)
        for due in range(1, 61):
            self.slots[slot]["due"] = due
            if self.can_keep():
                return (("promised", number, due),)
        del self.slots[slot]
        self.count = number
        return (("refused",),)

    def move(self):
        """The MOVE of [803], None if none keeps."""
        task, standing, dues = self.claim()
        keeping = [move for move in literal_moves(task, standing) if all(
            literal_kept(task, literal_claim(task, dues, behind))
            for _, behind in literal_ticks(task, standing, move))]
        words = {move: [word for _, word, _ in move] for move in keeping}
        return min(keeping, default=None, key=lambda move: (-words[move].count("step"), words[move].count("wash"),
                                                            move))

    def tick(self, move, late):
        """What a tick does, but that samples which are done stay; every DUE above -1 is one less."""
        task, standing, _ = self.claim()
        rests, pairs = dict(literal_ticks(task, standing, move))[late]
        self.tools = [list(pair) for pair in pairs]
        for slot, one in self.slots.items():
            one["done"], one["waited"] = rests[slot]
            one["due"] -= one["due"] > -1

    def finish(self):
        """The words for samples that are done; they leave."""
        done = sorted((one["number"], slot) for slot, one in self.slots.items() if one["done"] == len(one["steps"]))
        for _, slot in done:
            del self.slots[slot]
        return tuple(("done", number) for number, _ in done)

    def take(self, number):
        """The words for a sample that is to be taken out."""
        slot = self.slot_of(number)
        if self.runs(slot):
            return (("running", number),)
        kept = self.slots.pop(slot)
        if self.can_keep():
            return (("taken", number),)
        self.slots[slot] = kept
        return (("needed", number),)

    def smash(self, tool):
        """The tool is out of use; the words for the sample that is spoilt."""
        state, job = self.tools[tool]
        self.tools[tool] = [state, ("out",)]
        return (("spoilt", self.slots.pop(job[1])["number"]),) if job[:1] == ("step",) else ()

    def sort_out(self):
        """The words for the promises that are taken back behind a break."""
        task, standing, dues = self.claim()
        stay, words = [-1] * 4, ()
        for number, slot in sorted((one["number"], slot) for slot, one in self.slots.items()):
            if dues[slot] > -1:
                stay[slot] = dues[slot]
                if not literal_can_be_kept(task, standing, tuple(stay)):
                    stay[slot] = -1
                    self.free(slot)
                    words += (("back", number),)
        return words

    def step(self, event):
        """The words of an EVENT, which is done."""
        word, rest = event[0], event[1:]
        if word == "ask":
            return self.ask(*rest)
        if word == "tick":
            self.tick(self.move(), *rest)
            return self.finish()
        if word == "waive":
            self.free(self.slot_of(*rest))
            return (("free",) + rest,)
        if word == "take":
            return self.take(*rest)
        if word == "break":
            return self.smash(*rest) + self.sort_out()
        self.tools[rest[0]] = [rest[1], ()]
        return (("mended", rest[0]),)

    def replay(self, event, words):
        """The word for an ENTRY that cannot be, which may be done by half; None if it can be: then it is done."""
        call = getattr(self, "replay_" + event[0])
        return call(*event[1:], words)

    def replay_ask(self, sample, words):
        if (len(self.slots) == 4) != (words == (("full",),)):
            return "slots"
        if words[0][0] == "promised":
            if words[0][1] != self.count:
                return "number"
            self.put(sample, words[0][2])
        return None

    def replay_tick(self, move, late, words):
        task, standing, _ = self.claim()
        if move not in literal_moves(task, standing):
            return "move"
        if late not in dict(literal_ticks(task, standing, move)):
            return "lateness"
        self.tick(move, late)
        if any(one["due"] == 0 and one["done"] < len(one["steps"]) for one in self.slots.values()):
            return "late"
        if literal_broken(*self.claim()[:2]):
            return "window"
        return None if self.finish() == words else "number"

    def replay_waive(self, number, words):
        if self.slot_of(number) is None:
            return "number"
        self.free(self.slot_of(number))
        return None

    def replay_take(self, number, words):
        slot = self.slot_of(number)
        if slot is None:
            return "number"
        if self.runs(slot) != (words == (("running", number),)):
            return "running"
        if words[0][0] == "taken":
            del self.slots[slot]
        return None

    def replay_break(self, tool, words):
        if self.tools[tool][1] == ("out",):
            return "tool"
        if self.smash(tool) != tuple(word for word in words if word[0] == "spoilt"):
            return "number"
        back = [number for word, number in words if word == "back"]
        slots = {one["number"]: slot for slot, one in self.slots.items() if one["due"] > -1}
        if back != sorted(set(back)) or not set(back) <= set(slots):
            return "number"
        for number in back:
            self.free(slots[number])
        return None

    def replay_mend(self, tool, state, words):
        if self.tools[tool][1] != ("out",):
            return "tool"
        self.tools[tool] = [state, ()]
        return None


def house_events(rng, house, samples):
    """Some EVENT that may come to a HOUSE."""
    model = LiteralHouse(house)
    roll = rng.random()
    numbers = [number for number, _ in house[4]]
    if roll < 0.3:
        return ("ask", rng.choice(samples))
    if roll < 0.42 and numbers:
        return (rng.choice(("waive", "take", "take")), rng.choice(numbers))
    if roll < 0.54:
        tool = rng.randrange(house[0][2])
        if model.tools[tool][1] == ("out",):
            return ("mend", tool, rng.randrange(len(house[0][0])))
        if roll < 0.49:
            return ("break", tool)
    task, standing, _ = model.claim()
    return ("tick", rng.choice(literal_ticks(task, standing, model.move()))[0])


@lru_cache(maxsize=None)
def house_runs():
    """Some rows of EVENTS from the beginning on, with their LAB: tuples of triples (HOUSE, EVENT, WORDS)."""
    runs = []
    for seed, (lab, samples, many) in enumerate((
            (HOUSE_LAB, (LONG_SAMPLE, SHORT_SAMPLE, ZONE_SAMPLE), 60), (HOUSE_LAB, (LONG_SAMPLE, ZONE_SAMPLE), 60),
            (STEP_LAB, (DIRTY_SAMPLE, CLEAN_SAMPLE), 80), (STEP_LAB, (DIRTY_SAMPLE, DIRTY_SAMPLE, CLEAN_SAMPLE), 80),
            (SLOW_LAB, (SLOW_SAMPLE, DIRTY_SAMPLE), 60), (SLOW_LAB, (SLOW_SAMPLE,), 60),
            (LUCK_LAB, (DIRTY_SAMPLE,), 30),
            (changed(HOUSE_LAB, (3,), 1), (LONG_SAMPLE, SHORT_SAMPLE), 60)) * 2):
        rng = random.Random(800 + seed)
        tools = ((0, ()),) * lab[2]
        house = (lab, (EMPTY_SLOT,) * 4, (((0, 0),) * 4, tools), (-1,) * 4, (), 0)
        rows = []
        script = NEEDED_EVENTS if lab == STEP_LAB and seed > 8 else ()
        for index in range(many):
            event = script[index] if index < len(script) else house_events(rng, house, samples)
            model = LiteralHouse(house)
            words = model.step(event)
            rows.append((house, event, words))
            house = model.told()
        runs.append((lab, tuple(rows), house))
    return tuple(runs)


@lru_cache(maxsize=None)
def house_logs():
    """LOGS of the runs: triples of the LAB, the ENTRIES and the HOUSES, the last one among them."""
    return tuple((lab, tuple((("tick", LiteralHouse(house).move(), event[1]) if event[0] == "tick" else event, words)
                             for house, event, words in rows), tuple(house for house, _, _ in rows) + (last,))
                 for lab, rows, last in house_runs())


def literal_is_entry(lab, value):
    """Whether a value has the form of an ENTRY, by [901]."""
    if not is_plain(value) or type(value) is not tuple or len(value) != 2 or type(value[0]) is not tuple:
        return False
    event, words = value
    if type(words) is not tuple or not all(type(word) is tuple and word for word in words):
        return False
    kinds = [tuple(type(part) for part in word) for word in words]
    told = [word[0] for word in words]
    tools, states = range(lab[2]), range(len(lab[0]))
    if not all(0 <= word[1] < 10 ** 18 for word, kind in zip(words, kinds) if kind[1:2] == (int,)):
        return False
    pairs = all(kind == (str, int) for kind in kinds)
    if event[:1] == ("ask",):
        if len(event) != 2 or not is_task((lab, (event[1],))) or not event[1][0] or len(words) != 1:
            return False
        return words[0] in (("full",), ("refused",)) or (
            kinds[0] == (str, int, int) and told == ["promised"] and 1 <= words[0][2] <= 60)
    if event[:1] == ("tick",):
        if len(event) != 3 or not all(type(part) is tuple for part in event[1:]):
            return False
        for begin in event[1]:
            if type(begin) is not tuple or [type(part) for part in begin] != [int, str, int] or begin[0] not in tools:
                return False
            if begin[2] not in {"step": range(4), "wash": range(len(lab[1]))}.get(begin[1], ()):
                return False
        for pair in event[2]:
            if type(pair) is not tuple or [type(part) for part in pair] != [int, int]:
                return False
            if pair[0] not in tools or pair[1] not in states:
                return False
        rows = [[thing[0] for thing in event[1]], [pair[0] for pair in event[2]]]
        rows += [[word[1] for word in words]] if pairs and set(told) <= {"done"} else [[1, 0]]
        return all(row == sorted(set(row)) for row in rows)
    if event[:1] in (("waive",), ("take",)):
        right = {"waive": ["free"], "take": ["taken", "needed", "running"]}[event[0]]
        return (len(event) == 2 and type(event[1]) is int and 0 <= event[1] < 10 ** 18 and pairs
                and words in tuple(((word, event[1]),) for word in right))
    if event[:1] == ("break",):
        if len(event) != 2 or type(event[1]) is not int or event[1] not in tools or not pairs:
            return False
        return told in (["back"] * len(words), ["spoilt"] + ["back"] * (len(words) - 1)) and len(
            {word[1] for word in words}) == len(words)
    if event[:1] == ("mend",):
        return (len(event) == 3 and type(event[1]) is int and event[1] in tools and type(event[2]) is int
                and event[2] in states and pairs and words == (("mended", event[1]),))
    return False


def literal_replay(lab, entries):
    """The HOUSES of right ENTRIES up to the first that cannot be, and its index and word, None if there is none."""
    tools = ((0, ()),) * lab[2]
    houses = [(lab, (EMPTY_SLOT,) * 4, (((0, 0),) * 4, tools), (-1,) * 4, (), 0)]
    for index, (event, words) in enumerate(entries):
        model = LiteralHouse(houses[-1])
        why = model.replay(event, words)
        if why is not None:
            return tuple(houses), (index, why)
        houses.append(model.told())
    return tuple(houses), None


def other_logs(rng, lab, entries, many):
    """LOGS with an ENTRY left out, doubled, exchanged or changed in one thing, as far as they have the form of one."""
    found = []
    while len(found) < many:
        place = rng.randrange(len(entries))
        roll = rng.random()
        if roll < 0.2:
            other = entries[:place] + entries[place + 1:]
        elif roll < 0.4:
            other = entries[:place] + (rng.choice(entries),) + entries[place + rng.randint(0, 1):]
        else:
            other = changed(entries, (place,), rng.choice(near_values(entries[place], rng, 2)))
        if literal_is_entry(lab, other[min(place, len(other) - 1)]) if other else True:
            found.append(other)
    return found


def idle_logs(rng, lab, entries):
    """Beginnings of a LOG behind which nothing is begun any more, but what runs ends as soon as it may."""
    found = []
    for _ in range(12):
        rows = entries[:rng.randrange(len(entries))]
        houses, fault = literal_replay(lab, rows)
        while fault is None and len(rows) < 100 and any(due > -1 for due in houses[-1][3]):
            task, standing, _ = LiteralHouse(houses[-1]).claim()
            late = literal_ticks(task, standing, ())[-1][0]
            model = LiteralHouse(houses[-1])
            model.tick((), late)
            rows += ((("tick", (), late), model.finish()),)
            houses, fault = literal_replay(lab, rows)
        found.append(rows)
    return found
