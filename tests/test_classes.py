"""[702], [703]: classes, and the play over forms."""

import unittest
from unittest import mock

from tests.examples import (
    DOC_LAB, EMPTY_TASK, EVEN_TASKS, LUCK_TASK, MANY_STANDINGS, MANY_TRIPLES, NO_TUPLES, SMALL_TASKS, STUCK_TWINS,
    THREE_TASK, TWIN_TASK, TWO_TASK, all_renamings, literal_comings, literal_done, literal_form, literal_ranks,
    literal_rows, literal_symmetries, refused, renamed_move_literally, renamed_standing_literally, small_tasks,
    wash_task)
from washedarms import comings, webs
from washedarms.classes import class_plan, class_ranks, classes, fixed_count, spread_plan
from washedarms.errors import BadRenaming, BadSymmetry, BadTask, TooGreat
from washedarms.forms import start
from washedarms.planchecks import is_live_plan
from washedarms.ranks import soonest

# Many more than 20000 STANDINGS, and forms, come.
UNEVEN_TASK = wash_task(8, (6, 6, 6), tools=3, named=(0,))
TASKS = EVEN_TASKS + SMALL_TASKS + small_tasks(702, 6, 150, samples=2, steps=1, tools=2, states=1, stuffs=1)


def literal_play(task):
    """The play over forms: of each form that comes the MOVES, in order, with the forms they lead to."""
    play, ahead = {}, [start(task)]
    for form in ahead:
        if form not in play:
            play[form] = [(move, [literal_form(task, behind) for _, behind in ends])
                          for move, ends in literal_rows(task, form)]
            ahead += [other for _, behind in play[form] for other in behind]
    return play


def literal_form_ranks(task):
    """RANKS over forms, round by round."""
    play = literal_play(task)
    ranks = {form: 0 for form in play if literal_done(task, form)}
    for rank in range(1, len(play) + 1):
        new = [form for form in play if form not in ranks and any(
            all(other in ranks for other in behind) for _, behind in play[form])]
        ranks.update((form, rank) for form in new)
    return {form: ranks.get(form) for form in play}


class ClassesTest(unittest.TestCase):
    def test_by_the_words(self):
        for task in TASKS:
            come = literal_comings(task)
            self.assertEqual(classes(task), tuple(sorted({literal_form(task, one) for one in come})))
            total = 0
            for symmetry in literal_symmetries(task):
                fixed = fixed_count(task, symmetry)
                self.assertEqual(fixed, sum(renamed_standing_literally(one, symmetry) == one for one in come))
                total += fixed
            # The sum of [702].
            self.assertEqual(total, len(literal_symmetries(task)) * len(classes(task)))

    def test_by_hand(self):
        self.assertEqual(classes(EMPTY_TASK), (start(EMPTY_TASK),))
        self.assertEqual(fixed_count(EMPTY_TASK, ((), (0,))), 1)
        # START, running at 1, one done, running with the other one done; nothing can be washed.
        self.assertEqual(len(literal_comings(STUCK_TWINS)), 5)
        self.assertEqual(classes(STUCK_TWINS), (
            (((0, 0), (0, 0)), ((0, ()),)), (((0, 0), (0, 0)), ((0, ("step", 0, 1)),)),
            (((0, 0), (1, 0)), ((1, ()),))))
        self.assertEqual(fixed_count(STUCK_TWINS, ((0, 1), (0,))), 5)
        self.assertEqual(fixed_count(STUCK_TWINS, ((1, 0), (0,))), 1)

    def test_wrong_symmetries(self):
        for wrong in NO_TUPLES + ((), ((0, 1),), ((0, 1), (0, 0)), ((0, 1), (True, False)), [(0, 1), (0, 1)]):
            refused(self, BadRenaming, {}, fixed_count, TWIN_TASK, wrong)
        tasks = [task for task in TASKS if len(literal_symmetries(task)) < len(all_renamings(task))]
        self.assertGreater(len(tasks), 10)
        for task in tasks:
            for renaming in all_renamings(task):
                if renaming not in literal_symmetries(task):
                    refused(self, BadSymmetry, {}, fixed_count, task, renaming)
        refused(self, BadTask, {"word": "samples", "place": (1,)}, fixed_count, (DOC_LAB, 0), "x")
        refused(self, BadTask, {"word": "samples", "place": (1,)}, classes, (DOC_LAB, 0))

    def test_too_many(self):
        few, many = MANY_STANDINGS
        same = literal_symmetries(many)[0]
        refused(self, BadSymmetry, {}, fixed_count, UNEVEN_TASK, ((0,), (1, 0, 2)))
        refused(self, BadRenaming, {}, fixed_count, UNEVEN_TASK, ((0,), (1, 0)))
        refused(self, TooGreat, {"most": 20000}, fixed_count, UNEVEN_TASK, ((0,), (0, 2, 1)))
        refused(self, TooGreat, {"most": 20000}, fixed_count, many, same)
        refused(self, TooGreat, {"most": 20000}, classes, many)
        self.assertEqual(fixed_count(few, same), 18368)
        self.assertEqual(len(classes(few)), (18368 + fixed_count(few, literal_symmetries(few)[1])) // 2)
        for task in TASKS[:12]:
            most = len(literal_comings(task))
            with mock.patch.object(comings, "MOST_NODES", most):
                self.assertEqual(fixed_count(task, literal_symmetries(task)[0]), most)
            with mock.patch.object(comings, "MOST_NODES", most - 1):
                if most > 1:
                    refused(self, TooGreat, {"most": most - 1}, classes, task)
                    refused(self, TooGreat, {"most": most - 1}, fixed_count, task, literal_symmetries(task)[0])


class FormPlayTest(unittest.TestCase):
    def test_ranks_by_the_words(self):
        for task in TASKS:
            ranks = literal_form_ranks(task)
            self.assertEqual(class_ranks(task), tuple((form, ranks[form]) for form in sorted(ranks)))
            # The forms of what comes are what comes of the forms, with the same RANKS.
            self.assertEqual(tuple(form for form, _ in class_ranks(task)), classes(task))
            for standing, rank in literal_ranks(task, start(task)).items():
                self.assertEqual(ranks[literal_form(task, standing)], rank)
            self.assertEqual(dict(class_ranks(task))[start(task)], soonest(task, start(task)))

    def test_plans(self):
        kinds = set()
        for task in TASKS:
            play, ranks = literal_play(task), literal_form_ranks(task)
            plan, spread = class_plan(task), spread_plan(task)
            kinds.add((ranks[start(task)] is None, plan == ()))
            if ranks[start(task)] is None:
                self.assertIsNone(plan)
                self.assertIsNone(spread)
                continue
            rows = {}
            ahead = [start(task)]
            for form in ahead:
                if ranks[form] and form not in rows:
                    move, behind = [(move, behind) for move, behind in play[form] if all(
                        ranks[other] is not None and ranks[other] < ranks[form] for other in behind)][0]
                    rows[form] = (form, move, ranks[form])
                    ahead += behind
            self.assertEqual(plan, tuple(rows[form] for form in sorted(rows)))
            self.assertTrue(is_live_plan(task, start(task), ranks[start(task)], spread))
            self.check_spread(task, rows, spread)
        self.assertEqual(kinds, {(True, False), (False, False), (False, True)})

    def check_spread(self, task, plan, spread):
        rows = {}
        ahead = [start(task)]
        for standing in ahead:
            if literal_done(task, standing) or standing in rows:
                continue
            form, move, rank = plan[literal_form(task, standing)]
            renaming = [one for one in literal_symmetries(task) if renamed_standing_literally(form, one) == standing][0]
            rows[standing] = (standing, renamed_move_literally(move, renaming), rank)
            ahead += [behind for _, behind in dict(literal_rows(task, standing))[rows[standing][1]]]
        self.assertEqual(spread, tuple(rows[one] for one in sorted(rows)))

    def test_by_hand(self):
        for call, told in ((class_plan, ()), (spread_plan, ())):
            self.assertEqual(call(EMPTY_TASK), told)
            self.assertIsNone(call(STUCK_TWINS))
            self.assertIsNone(call(LUCK_TASK))
        self.assertEqual(class_ranks(EMPTY_TASK), ((start(EMPTY_TASK), 0),))
        self.assertEqual([rank for _, rank in class_ranks(STUCK_TWINS)], [None, None, None])
        self.assertLess(len(class_plan(TWIN_TASK)), len(spread_plan(TWIN_TASK)))
        self.assertEqual(soonest(TWO_TASK, start(TWO_TASK)), class_plan(TWO_TASK)[0][2])
        self.assertLess(len(class_ranks(THREE_TASK)), len(literal_comings(THREE_TASK)) / 2)

    def test_too_many_forms(self):
        for call in (class_ranks, class_plan, spread_plan):
            refused(self, BadTask, {"word": "samples", "place": (1,)}, call, (DOC_LAB, 0))
        # More than 20000 STANDINGS, but not more forms; more than 200000 triples, which are not counted here.
        self.assertEqual(len(class_ranks(MANY_STANDINGS[1])), 10276)
        self.assertEqual(class_plan(MANY_TRIPLES[1]), ((start(MANY_TRIPLES[1]), ((0, "step", 0),), 1),))
        for call in (class_ranks, class_plan, spread_plan):
            refused(self, TooGreat, {"most": 20000}, call, UNEVEN_TASK)
            for task in TASKS[:8]:
                most = len(literal_play(task))
                with mock.patch.object(webs, "MOST_NODES", most), mock.patch.object(webs, "MOST_TRIPLES", 0):
                    call(task)
                with mock.patch.object(webs, "MOST_NODES", most - 1):
                    if most > 1:
                        refused(self, TooGreat, {"most": most - 1}, call, task)


if __name__ == "__main__":
    unittest.main()
