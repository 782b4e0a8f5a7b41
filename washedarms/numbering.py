"""All STANDINGS of a TASK by their numbers, without listing them.

How a STANDING can be gone on with hangs, for each sample, on which step of it
a tool may run: so POSITIONS are counted in groups, by the number of that step,
-1 where none may run.
"""

from washedarms.errors import BadNumber
from washedarms.forms import need_standing, pairs_for, positions, share_zone
from washedarms.plain import is_between
from washedarms.tasks import need_task


def standings_number(task):
    """How many STANDINGS a TASK has."""
    return count_behind(need_task(task), ())


def standing_at(task, number):
    """The STANDING with this number."""
    most = standings_number(task) - 1
    if not is_between(number, 0, most):
        raise BadNumber(number)
    rests = ()
    for sample in task[1]:
        counts = group_counts(task, rests)
        rows = [(position, counts[group_of(sample, position)]) for position in positions(sample)]
        position, number = choice_at(rows, number)
        rests = rests + (position,)
    pairs = ()
    for _ in range(task[0][2]):
        pair, number = choice_at(pair_counts(task, rests, pairs), number)
        pairs = pairs + (pair,)
    return (rests, pairs)


def number_of_standing(task, standing):
    """The number of a STANDING."""
    need_standing(task, standing)
    rests, pairs = standing
    number = 0
    for index, sample in enumerate(task[1]):
        counts = group_counts(task, rests[:index])
        lesser = [position for position in positions(sample) if position < rests[index]]
        number = number + sum([counts[group_of(sample, position)] for position in lesser])
    for tool, pair in enumerate(pairs):
        rows = pair_counts(task, rests, pairs[:tool])
        number = number + sum([count for other, count in rows if other < pair])
    return number


def choice_at(rows, number):
    """Of pairs of a choice and its count the choice in which a number falls, and what is left of the number."""
    for choice, count in rows:
        if number < count:
            return (choice, number)
        number = number - count
    return None


def group_of(sample, position):
    """The number of the step of a SAMPLE in a POSITION that a tool may run, -1 if none may run."""
    done, waited = position
    return done if waited == 0 and done < len(sample[0]) else -1


def group_sizes(sample):
    """The pairs of a group of a SAMPLE and how many POSITIONS are in it."""
    steps = len(sample[0])
    return [(-1, len(positions(sample)) - steps)] + [(group, 1) for group in range(steps)]


def groups_of(task, rests):
    """The groups of the POSITIONS of the first samples."""
    return tuple([group_of(task[1][index], position) for index, position in enumerate(rests)])


def group_counts(task, rests):
    """For each group of the sample behind the first ones: how many STANDINGS have a POSITION of it there."""
    groups = groups_of(task, rests)
    sizes = group_sizes(task[1][len(rests)])
    return {group: count_behind(task, groups + (group,)) for group, _ in sizes}


def pair_counts(task, rests, pairs):
    """For each pair that the next tool may have: the pair, and how many STANDINGS have it there."""
    groups = groups_of(task, rests)
    found = []
    for pair in pairs_for(task, rests, pairs):
        jobs = [other[1] for other in pairs + (pair,) if len(other[1]) == 3]
        on = tuple([job[1] for job in jobs if job[0] == "step"])
        found = found + [(pair, tool_count(task, groups, len(pairs) + 1, len(jobs), on))]
    return found


def count_behind(task, groups):
    """How many STANDINGS have given POSITIONS in their first samples, of which the groups are told."""
    if len(groups) == len(task[1]):
        return tool_count(task, groups, 0, 0, ())
    sizes = group_sizes(task[1][len(groups)])
    return sum([size * count_behind(task, groups + (group,)) for group, size in sizes])


def tool_count(task, groups, tool, jobs, on):
    """In how many ways the tools from this one on can stand, beside so many JOBS and these samples that are on."""
    lab = task[0]
    if tool == lab[2]:
        return 1
    total = 2 * len(lab[0]) * tool_count(task, groups, tool + 1, jobs, on)
    if jobs == lab[3]:
        return total
    washing_ways = sum([len(lab[0]) * (wash[2] - 1) for wash in lab[1]])
    total = total + washing_ways * tool_count(task, groups, tool + 1, jobs + 1, on)
    for sample in range(len(groups)):
        ways = step_ways(task, groups, tool, on, sample)
        if ways > 0:
            total = total + ways * tool_count(task, groups, tool + 1, jobs + 1, on + (sample,))
    return total


def step_ways(task, groups, tool, on, sample):
    """In how many ways the tool can run a step of the sample, beside these samples that are on."""
    if groups[sample] < 0 or sample in on:
        return 0
    step = task[1][sample][0][groups[sample]]
    if tool not in step[1]:
        return 0
    if any([share_zone(step, task[1][other][0][groups[other]]) for other in on]):
        return 0
    return len([row for row in task[0][0] if row[step[0]] is not None]) * (step[4] - 1)
