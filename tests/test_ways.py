"""[604], [605]: FATES, WAYS, the ticks at which jobs begin."""

import unittest

from tests.examples import (
    EMPTY_TASK, HELD_ORDER, NEVER_RIGHT, NO_TUPLES, RUN_ORDER, RUN_TASK, SOUND_ORDERS, TWO_ORDER, TWO_TASK, all_fates,
    at, changed, job_names, literal_begins, literal_links, literal_ways, places, refused)
from washedarms.errors import BadFate, BadNumber, TooGreat
from washedarms.ways import begins, way_count, ways_to

# No names of jobs of TWO_ORDER.
WRONG_JOBS = NEVER_RIGHT + NO_TUPLES + ((), (0,), (0, 3), (1, 1), (2, 0), (-1, 0), (0, -1), (0, 0, 0), (True, 0),
                                        (0, False), [0, 0], ("step", 0, 0))


def net_order(many):
    """A TASK and an ORDER of so many washes in a row, each held by all that are ahead of it and by the start."""
    task = ((((0,),), ((((0,),), 1, 2),), 1, 1, 0), ())
    jobs = [(0, place) for place in range(many)]
    holds = [((), 0, job) for job in jobs] + [(one, 0, other) for one in jobs for other in jobs if one < other]
    return task, (((("wash", 0),) * many,), tuple(sorted(holds)))


class WaysTest(unittest.TestCase):
    def test_by_the_words(self):
        counts = set()
        for task, order in SOUND_ORDERS:
            for job in job_names(order):
                ways = literal_ways(task, order, job)
                self.assertEqual(ways_to(task, order, job), tuple(ways))
                self.assertEqual(way_count(task, order, job), len(ways))
                counts.add(len(ways))
        self.assertLessEqual({1, 2, 3, 4}, counts)

    def test_by_hand(self):
        self.assertEqual(ways_to(TWO_TASK, TWO_ORDER, (0, 2)), (((0, 0), (0, 1)), ((1, 0),)))
        self.assertEqual(ways_to(TWO_TASK, TWO_ORDER, (0, 0)), ((),))
        order = (TWO_ORDER[0], (((), 4, (0, 2)), ((0, 0), 1, (1, 0))))
        self.assertEqual(ways_to(TWO_TASK, order, (0, 2)), ((), ((0, 0), (0, 1)), ((0, 0), (1, 0))))
        self.assertEqual(ways_to(TWO_TASK, order, (1, 0)), (((0, 0),),))

    def test_many_ways(self):
        task, order = net_order(20)
        for place in (0, 1, 5, 19):
            self.assertEqual(way_count(task, order, (0, place)), 2 ** place)
        for place in (0, 4, 10):
            self.assertEqual(len(ways_to(task, order, (0, place))), 2 ** place)
        for place in (11, 19):
            refused(self, TooGreat, {"most": 2000}, ways_to, task, order, (0, place))
        # 1024 + 512 + 256 + 128 + 64 + 16 are just 2000 WAYS.
        rows, holds = net_order(12)[1]
        for ahead, many in (((10, 9, 8, 7, 6, 4), 2000), ((10, 9, 8, 7, 6, 4, 0), 2001)):
            kept = tuple(hold for hold in holds if hold[2] != (0, 11) or hold[0][1:] in [(place,) for place in ahead])
            self.assertEqual(way_count(task, (rows, kept), (0, 11)), many)
            if many == 2000:
                self.assertEqual(len(ways_to(task, (rows, kept), (0, 11))), many)
            else:
                refused(self, TooGreat, {"most": 2000}, ways_to, task, (rows, kept), (0, 11))

    def test_errors(self):
        for call in (way_count, ways_to):
            for wrong in WRONG_JOBS:
                refused(self, BadNumber, {"value": wrong}, call, TWO_TASK, TWO_ORDER, wrong)
            refused(self, BadNumber, {"value": (0, 0)}, call, EMPTY_TASK, (((),), ()), (0, 0))


class BeginsTest(unittest.TestCase):
    def test_by_the_words(self):
        for task, order in SOUND_ORDERS:
            for fate in all_fates(task, order)[::7]:
                spans = literal_begins(task, order, fate)
                rows = [[spans[tool, place] for place in range(len(row))] for tool, row in enumerate(order[0])]
                self.assertEqual(begins(task, order, fate), tuple(
                    tuple(tuple(span[part] for span in row) for row in rows) for part in (0, 1)))

    def test_the_greatest_span(self):
        """[605]: a job begins at the greatest SPAN of a WAY to it."""
        for task, order in SOUND_ORDERS:
            gaps = {(first, later): gap for first, gap, later in literal_links(task, order)}
            for fate in all_fates(task, order)[::29]:
                begun, _ = begins(task, order, fate)
                for job in job_names(order):
                    spans = []
                    for way in ways_to(task, order, job):
                        row = ((),) + way + (job,)
                        spans.append(sum(gaps[pair] for pair in zip(row, row[1:]))
                                     + sum(fate[tool][place][0] for tool, place in way))
                    self.assertEqual(at(begun, job), max(spans))

    def test_by_hand(self):
        fate = (((2, 0), (1, 0), (1, 0)), ((1, 0),))
        self.assertEqual(begins(TWO_TASK, TWO_ORDER, fate), (((0, 2, 3), (0,)), ((2, 3, 4), (1,))))
        self.assertEqual(begins(TWO_TASK, HELD_ORDER, fate), (((0, 2, 3), (1,)), ((2, 3, 4), (2,))))
        self.assertEqual(begins(RUN_TASK, RUN_ORDER, (((1, 0), (1, 0), (1, 0)),)), (((0, 1, 2),), ((1, 2, 3),)))
        self.assertEqual(begins(EMPTY_TASK, (((),), ()), ((),)), (((),), ((),)))
        gaps = (TWO_ORDER[0], (((), 1000, (0, 1)), ((1, 0), 7, (0, 2))))
        self.assertEqual(begins(TWO_TASK, gaps, fate), (((0, 1000, 1001), (0,)), ((2, 1001, 1002), (1,))))

    def test_picks(self):
        # What a wash may leave hangs on the state that its row has come to.
        lab = (((1,), (2,), (None,)), ((((0,), (0, 1, 2), (0, 1)), 1, 2),), 1, 1, 0)
        task = (lab, ((((0, (0,), (), 1, 1),), (None,)),))
        order = (((("wash", 0), ("step", 0, 0), ("wash", 0), ("wash", 0)),), ())
        for picks, wrong in (((0, 0, 0), None), ((0, 2, 1), None), ((0, 1, 2), None), ((1, 0, 0), 0), ((0, 3, 0), 2),
                             ((0, 0, 1), 3), ((0, 1, 3), 3), ((0, 2, 2), 3), ((0, -1, 0), 2), ((0, True, 0), 2)):
            fate = (((1, picks[0]), (1, 0), (2, picks[1]), (1, picks[2])),)
            if wrong is None:
                self.assertEqual(begins(task, order, fate)[0], ((0, 1, 2, 4),))
            else:
                refused(self, BadFate, {"job": (0, wrong)}, begins, task, order, fate)

    def test_wrong_fates(self):
        fate = (((2, 0), (1, 0), (1, 0)), ((1, 0),))
        for wrong in NO_TUPLES + ((), fate[:1], fate + ((),), list(fate), (fate[0], ()), (fate[0], fate[1] * 2),
                                  (list(fate[0]), fate[1]), (fate[0][:2], fate[1]), (fate[0], None)):
            refused(self, BadFate, {"job": None}, begins, TWO_TASK, TWO_ORDER, wrong)
        for place in places(fate)[1:]:
            if len(place) < 2:
                continue
            for wrong in NEVER_RIGHT + (None, 3, (1,), (1, 0, 0), (3, 0), (0, 0), (1, 1)):
                refused(self, BadFate, {"job": place[:2]}, begins, TWO_TASK, TWO_ORDER, changed(fate, place, wrong))
        both = changed(changed(fate, (0, 1), 0), (1, 0), 0)
        refused(self, BadFate, {"job": (0, 1)}, begins, TWO_TASK, TWO_ORDER, both)


if __name__ == "__main__":
    unittest.main()
