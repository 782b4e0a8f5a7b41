"""What a TASK is, and what is wrong with a value that is none."""

from washedarms.errors import BadTask
from washedarms.labs import lab_fault, stuff_count
from washedarms.plain import ascending_fault, is_between, is_tuple_of, span_fault


def task_fault(value):
    """The fault of a value as a TASK, None if it is one."""
    if not is_tuple_of(value, 2):
        return ("task", ())
    fault = lab_fault(value[0])
    if fault is not None:
        return (fault[0], (0,) + fault[1])
    place = samples_place(value[0], value[1])
    return None if place is None else ("samples", (1,) + place)


def is_task(value):
    """Whether a value is a TASK."""
    return task_fault(value) is None


def need_task(task):
    """The TASK itself, if it is one."""
    fault = task_fault(task)
    if fault is not None:
        raise BadTask(fault[0], fault[1])
    return task


def next_step(task, standing, sample):
    """The next step of the sample with this number, None if all its steps are done."""
    steps = task[1][sample][0]
    done = standing[0][sample][0]
    return steps[done] if done < len(steps) else None


def samples_place(lab, samples):
    """The place of the first wrong thing in SAMPLES, None if nothing is wrong."""
    if type(samples) is not tuple or len(samples) > 4:
        return ()
    for number, sample in enumerate(samples):
        place = sample_place(lab, sample)
        if place is not None:
            return (number,) + place
    return None


def sample_place(lab, sample):
    """The place of the first wrong thing in one SAMPLE, None if nothing is wrong."""
    if not is_tuple_of(sample, 2):
        return ()
    place = steps_place(lab, sample[0])
    if place is not None:
        return (0,) + place
    place = windows_place(sample[1], len(sample[0]))
    return None if place is None else (1,) + place


def steps_place(lab, steps):
    """The place of the first wrong thing in STEPS, None if nothing is wrong."""
    if type(steps) is not tuple or len(steps) > 4:
        return ()
    for number, step in enumerate(steps):
        place = step_place(lab, step)
        if place is not None:
            return (number,) + place
    return None


def step_place(lab, step):
    """The place of the first wrong thing in one STEP, None if nothing is wrong."""
    if not is_tuple_of(step, 5):
        return ()
    stuff, tools, zones, low, high = step
    if not is_between(stuff, 0, stuff_count(lab) - 1):
        return (0,)
    if type(tools) is not tuple or not tools:
        return (1,)
    fault = ascending_fault(tools, 0, lab[2] - 1)
    if fault is not None:
        return (1, fault)
    if type(zones) is not tuple:
        return (2,)
    fault = ascending_fault(zones, 0, lab[4] - 1)
    if fault is not None:
        return (2, fault)
    fault = span_fault(low, high)
    return None if fault is None else (3 + fault,)


def windows_place(windows, steps):
    """The place of the first wrong thing in WINDOWS, None if nothing is wrong."""
    if not is_tuple_of(windows, steps):
        return ()
    for number, window in enumerate(windows):
        # Nothing is ahead of the first step, so it has no window.
        if window is None or (number > 0 and is_between(window, 0, 6)):
            continue
        return (number,)
    return None
