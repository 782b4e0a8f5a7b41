"""[60], [25]: WEBS, and where searches end."""

import unittest
from unittest import mock

from tests.examples import (
    DOC_LAB, EMPTY_TASK, MANY_STANDINGS, MANY_TRIPLES, PAPER_TASK, RUN_STANDINGS, RUN_TASK, SMALL_TASKS,
    WRONG_STANDINGS, literal_broken, literal_done, literal_met, literal_rows, refused, some_standings)
from washedarms import webs
from washedarms.errors import BadStanding, BadTask, TooGreat
from washedarms.forms import start
from washedarms.lateness import lateness_table
from washedarms.plans import live_plan, worst_course
from washedarms.ranks import best_moves, move_worth, rank_row, soonest
from washedarms.webs import web_row


class WebTest(unittest.TestCase):
    def test_by_the_words(self):
        sizes = set()
        for task in SMALL_TASKS:
            for standing in some_standings(task, 5):
                met, _ = literal_met(standing, lambda one: literal_rows(task, one))
                self.assertEqual(web_row(task, standing), met)
                sizes.add(len(met))
        self.assertGreater(len(sizes), 20)

    def test_by_hand(self):
        first, second, third, fourth, done = RUN_STANDINGS
        broken = (((1, 2),), ((1, ()),))
        # The START goes on to itself, to the running step, to its end; a wash leads back.
        self.assertEqual(web_row(RUN_TASK, first), (
            first, second, third, (((1, 1),), ((1, ()),)), fourth, broken, (((1, 2),), ((0, ()),)), done))
        self.assertEqual(web_row(EMPTY_TASK, start(EMPTY_TASK)), (start(EMPTY_TASK),))
        for standing in (done, broken, (((2, 0),), ((1, ()),)), (((2, 0),), ((0, ("out",)),))):
            self.assertEqual(web_row(RUN_TASK, standing), (standing,))

    def test_nothing_goes_on_from_done_and_broken_ones(self):
        for task in SMALL_TASKS:
            for standing in some_standings(task, 5):
                if literal_done(task, standing) or literal_broken(task, standing):
                    self.assertEqual(web_row(task, standing), (standing,))

    def test_tools_out_of_use(self):
        out = (((0, 0),), ((0, ("out",)),))
        self.assertEqual(web_row(RUN_TASK, out), (out,))

    def test_errors(self):
        for call in (web_row, soonest, rank_row, best_moves, live_plan, worst_course):
            refused(self, BadTask, {"word": "samples", "place": (1,)}, call, (DOC_LAB, 0), "x")
            for wrong in WRONG_STANDINGS:
                with self.assertRaises(BadStanding):
                    call(RUN_TASK, wrong)
            refused(self, BadStanding, {"word": "samples", "place": (0, 0, 0)}, call, RUN_TASK,
                    (((3, 0),), ((0, ()),)))


class GreatWebsTest(unittest.TestCase):
    def test_many_standings(self):
        right, wrong = MANY_STANDINGS
        self.assertEqual(len(web_row(right, start(right))), 18368)
        for call in (web_row, soonest):
            refused(self, TooGreat, {"most": 20000}, call, wrong, start(wrong))

    def test_many_triples(self):
        right, wrong = MANY_TRIPLES
        self.assertEqual(len(web_row(right, start(right))), 686)
        refused(self, TooGreat, {"most": 200000}, web_row, wrong, start(wrong))

    def test_all_searches_end(self):
        for call, more in ((web_row, ()), (soonest, ()), (rank_row, ()), (best_moves, ()), (live_plan, ()),
                           (worst_course, ()), (lateness_table, (0,)), (lateness_table, (None,)), (move_worth, ((),))):
            call(RUN_TASK, start(RUN_TASK), *more)
            for name, most in (("MOST_NODES", 7), ("MOST_TRIPLES", 11)):
                with mock.patch.object(webs, name, most):
                    refused(self, TooGreat, {"most": most}, call, RUN_TASK, start(RUN_TASK), *more)
                with mock.patch.object(webs, name, most + 1):
                    call(RUN_TASK, start(RUN_TASK), *more)

    def test_other_errors_come_first(self):
        wrong = MANY_STANDINGS[1]
        refused(self, BadStanding, {"word": "standing", "place": ()}, web_row, wrong, 0)

    def test_the_first_limit_that_is_passed(self):
        """With lesser limits: standing by standing, standings ahead of triples."""
        seen = set()
        for task in (RUN_TASK, PAPER_TASK) + SMALL_TASKS[6:20]:
            met, counts = literal_met(start(task), lambda one: literal_rows(task, one))
            self.assertEqual(counts[-1][0], len(met))
            for most_nodes in (len(met), len(met) - 1, len(met) // 2):
                for most_triples in (counts[-1][1], counts[-1][1] - 1, counts[-1][1] // 2):
                    right = None
                    for nodes, triples in counts:
                        if right is None and nodes > most_nodes:
                            right = most_nodes
                        if right is None and triples > most_triples:
                            right = most_triples
                    with mock.patch.object(webs, "MOST_NODES", most_nodes), mock.patch.object(
                            webs, "MOST_TRIPLES", most_triples):
                        if right is None:
                            self.assertEqual(web_row(task, start(task)), met)
                        else:
                            refused(self, TooGreat, {"most": right}, web_row, task, start(task))
                    seen.add("none" if right is None else right == most_nodes)
        self.assertEqual(seen, {"none", True, False})
        self.assertEqual((webs.MOST_NODES, webs.MOST_TRIPLES), (20000, 200000))


if __name__ == "__main__":
    unittest.main()
