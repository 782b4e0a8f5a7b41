"""[0] to [3]: what holds of all functions: names, places, plain values, unchanged arguments."""

import copy
import importlib
import inspect
import os
import unittest

from tests.examples import (
    DOC_LAB, GREAT_TASK, HOUSE_LAB, LONG_SAMPLE, PAPER_TASK, RUN, RUN_CHART, RUN_ORDER, RUN_TASK, TASK, TWO_ORDER,
    TWO_TASK)
from washedarms.forms import start
from washedarms.houses import house_new
from washedarms.housing import house_step
from washedarms.judges import log_of, papers_of
from washedarms.loglines import log_text
from washedarms.tinytasks import tiny_task

START = start(RUN_TASK)
LAST, OUT = (((2, 0),), ((0, ()),)), (((0, 0),), ((0, ("out",)),))
STEP = ((0, "step", 0),)
# Papers for PAPER_TASK, whose START is the same.
RUNNING = (((0, 0),), ((0, ("step", 0, 1)),))
PAPER = ((START, STEP, 2), (RUNNING, (), 1))
TABLE = ((START, 1, ((), (), ((0, 0),))), (RUNNING, 0, ()))
DUE_PAPER = ((START, (2,), STEP), (RUNNING, (1,), ()))
DUE_TABLE = ((START, (1,), ((), (), ())),)
FATE = (((2, 0), (1, 0), (1, 0)), ((1, 0),))
KEEPING = ((((0, 0), (0, 1)), ((1, 0),)), (((1, 0),), ((1, 0),)))
RENAMING = ((1, 0), (1, 0))
LACK = ((1, 2, 1, ("stuff", 1)),)
EVEN_TASK = ((((0,),), (), 2, 2, 0), ((((0, (0, 1), (), 1, 2),), (None,)),))
# TWIN is a TASK with two SYMMETRIES; EASY is easier than PAPER_TASK.
TWIN = (PAPER_TASK[0], PAPER_TASK[1] * 2)
EASY = (PAPER_TASK[0], ((((0, (0,), (), 1, 1),), (None,)),))
COVER = ((START, START),)
PARTING = ((START, START, 1, STEP, ((), (), ((0, 0),))),)
HOUSE = house_new(HOUSE_LAB)
ASKED = house_step(HOUSE, ("ask", LONG_SAMPLE))[0]
FULL_EVENTS = (("ask", LONG_SAMPLE), ("ask", LONG_SAMPLE), ("tick", ((1, 1),)), ("break", 0))
LOG = log_of(HOUSE_LAB, FULL_EVENTS)
LOG_PAPERS = papers_of(HOUSE_LAB, LOG)
MISSED = LOG[:1] + ((("tick", (), ()), ()),) * 3
LOG_TEXT = log_text(HOUSE_LAB, LOG)
SHAPE = (1, 2, 1, 1, 0, (1, 1), 1, -1)
WHAT = ("step", 0, 0)
# Module, function, parameters, and some rows of right arguments.
CALLS = (
    ("labs", "lab_fault", "value", (([1],), (DOC_LAB,))),
    ("labs", "is_lab", "value", (([1],), (DOC_LAB,))),
    ("labs", "need_lab", "lab", ((DOC_LAB,),)),
    ("labs", "need_state", "lab state", ((DOC_LAB, 2),)),
    ("tasks", "task_fault", "value", (([1],), (TASK,))),
    ("tasks", "is_task", "value", (([1],), (TASK,))),
    ("tasks", "need_task", "task", ((TASK,),)),
    ("tasks", "next_step", "task standing sample", ((RUN_TASK, START, 0),)),
    ("forms", "standing_fault", "task value", ((RUN_TASK, START), (RUN_TASK, [START]))),
    ("forms", "is_standing", "task value", ((RUN_TASK, START), (RUN_TASK, {}))),
    ("forms", "need_standing", "task value", ((RUN_TASK, START),)),
    ("forms", "start", "task", ((TASK,),)),
    ("forms", "positions", "sample", ((TASK[1][2],),)),
    ("forms", "pairs_for", "task samples ahead", ((TASK, ((0, 0),) * 3, ((1, ("wash", 0, 1)),)),)),
    ("numbering", "standings_number", "task", ((TASK,),)),
    ("numbering", "standing_at", "task number", ((TASK, 3000),)),
    ("numbering", "number_of_standing", "task standing", ((TASK, start(TASK)),)),
    ("goodness", "is_as_good", "lab state other", ((DOC_LAB, 0, 1),)),
    ("goodness", "as_good_pairs", "lab", ((DOC_LAB,),)),
    ("goodness", "is_simulation", "lab pairs", ((DOC_LAB, ()), (DOC_LAB, [(0, 1)]))),
    ("goodness", "lack", "lab state other", ((DOC_LAB, 1, 2),)),
    ("goodness", "lack_fault", "lab state other rows", ((DOC_LAB, 1, 2, LACK), (DOC_LAB, 1, 2, [LACK[0]]))),
    ("needless", "needless_washes", "lab", ((DOC_LAB,),)),
    ("needless", "lab_without", "lab washes", ((DOC_LAB, (0,)),)),
    ("needless", "lab_with_worst", "lab", ((DOC_LAB,),)),
    ("oneform", "like_classes", "lab", ((DOC_LAB,),)),
    ("oneform", "like_rounds", "lab", ((DOC_LAB,),)),
    ("oneform", "one_form", "lab", ((DOC_LAB,),)),
    ("oneform", "first_unlike_round", "lab other", ((DOC_LAB, DOC_LAB),)),
    ("tasktexts", "task_text", "task", ((TASK,),)),
    ("tasktexts", "read_task", "text", (("lab 1 1 1 1 0\nstate 0",),)),
    ("tasktexts", "task_text_fault", "text", (("lab",),)),
    ("standingtexts", "standing_text", "task standing", ((RUN_TASK, START),)),
    ("standingtexts", "read_standing", "task text", ((RUN_TASK, "sample 0 0\ntool 1 idle"),)),
    ("standingtexts", "standing_text_fault", "task text", ((RUN_TASK, "sample 0"),)),
    ("touches", "row_end", "lab state stuffs", ((DOC_LAB, 0, (1, 1)),)),
    ("touches", "row_stop", "lab state stuffs", ((DOC_LAB, 0, (1, 0)),)),
    ("courses", "deeds", "lab state lot", ((DOC_LAB, 0, (1, 1)),)),
    ("courses", "washing", "lab state lot", ((DOC_LAB, 2, (1, 1)),)),
    ("courses", "course_plan", "lab state lot", ((DOC_LAB, 2, (1, 1)),)),
    ("courses", "course_plan_fault", "lab paper", ((DOC_LAB, ()), (DOC_LAB, [1]))),
    ("courses", "is_course_plan", "lab state lot ticks paper", ((DOC_LAB, 2, (1, 1), 3, [()]),)),
    ("bars", "course_bar", "lab state lot", ((DOC_LAB, 2, (1, 1)),)),
    ("bars", "course_bar_fault", "lab paper", ((DOC_LAB, ()), (DOC_LAB, [1]))),
    ("bars", "is_course_bar", "lab state lot ticks paper", ((DOC_LAB, 2, (1, 1), None, [()]),)),
    ("likeness", "state_classes", "lab", ((DOC_LAB,),)),
    ("likeness", "is_like", "lab partition", ((DOC_LAB, (0, 1, 2)), (DOC_LAB, [0, 1, 2]))),
    ("likeness", "merged", "lab", ((DOC_LAB,),)),
    ("likeness", "parting_paper", "lab one other", ((DOC_LAB, 2, 1),)),
    ("likeness", "paper_fault", "lab one other rows", ((DOC_LAB, 2, 1, LACK), (DOC_LAB, 2, 1, [LACK]))),
    ("plainlots", "follows", "lab", ((DOC_LAB,),)),
    ("plainlots", "is_plain", "lab", ((DOC_LAB,),)),
    ("plainlots", "lot_chains", "lab lot", ((DOC_LAB, (2, 3)),)),
    ("plainlots", "unfollowed", "lab lot", ((DOC_LAB, (2, 3)),)),
    ("plainlots", "width", "lab lot", ((DOC_LAB, (2, 3)),)),
    ("plainlots", "is_chains", "lab lot paper", ((DOC_LAB, (0, 1), (((1, 0),),)), (DOC_LAB, (0, 1), [[(1, 0)]]))),
    ("plainlots", "is_unfollowed", "lab lot paper", ((DOC_LAB, (0, 1), ((1, 0),)), (DOC_LAB, (0, 1), [(1, 0)]))),
    ("plainlots", "fewest_washes", "lab lot tools", ((DOC_LAB, (2, 3), 2),)),
    ("dealings", "dealing_late", "task dealing", ((EVEN_TASK, (1,)),)),
    ("dealings", "least_dealing", "task", ((EVEN_TASK,),)),
    ("freerows", "free_row_count", "lab state length", ((DOC_LAB, 0, 3),)),
    ("freerows", "free_row_at", "lab state length number", ((DOC_LAB, 0, 3, 1),)),
    ("freerows", "free_row_place", "lab state stuffs", ((DOC_LAB, 0, (1, 1, 1)),)),
    ("standings", "is_done", "task standing", ((RUN_TASK, START),)),
    ("standings", "is_broken", "task standing", ((RUN_TASK, START),)),
    ("standings", "is_live", "task standing", ((RUN_TASK, START),)),
    ("standings", "window_of", "task standing sample", ((RUN_TASK, START, 0),)),
    ("standings", "in_use", "task standing", ((RUN_TASK, START),)),
    ("moves", "moves_of", "task standing", ((TASK, start(TASK)),)),
    ("moves", "is_move", "task standing move", ((RUN_TASK, START, ()), (RUN_TASK, START, [()]))),
    ("ticks", "latenesses_of", "task standing move", ((RUN_TASK, START, ((0, "step", 0),)),)),
    ("ticks", "is_lateness", "task standing move lateness", ((RUN_TASK, START, (), ()), (RUN_TASK, START, (), [()]))),
    ("ticks", "after", "task standing move lateness", ((RUN_TASK, START, ((0, "step", 0),), ((0, 1),)),)),
    ("runs", "played", "task standing run", ((RUN_TASK, START, RUN),)),
    ("charts", "chart_of", "task run", ((RUN_TASK, RUN),)),
    ("charts", "standing_of_chart", "task ticks chart", ((RUN_TASK, 4, RUN_CHART),)),
    ("charts", "run_of_chart", "task ticks chart", ((RUN_TASK, 4, RUN_CHART),)),
    ("chartchecks", "chart_fault", "task ticks chart", ((RUN_TASK, 4, RUN_CHART), (RUN_TASK, 4, [RUN_CHART]))),
    ("comings", "what_comes", "task", ((RUN_TASK,),)),
    ("comings", "least_run", "task standing", ((RUN_TASK, LAST), (RUN_TASK, OUT))),
    ("comings", "closed_lot", "task standing", ((RUN_TASK, LAST), (RUN_TASK, OUT))),
    ("comings", "lot_fault", "task lot", ((RUN_TASK, (START,)), (RUN_TASK, [START]))),
    ("runcounts", "run_count", "task standing ticks", ((RUN_TASK, START, 3),)),
    ("runcounts", "run_at", "task standing ticks number", ((RUN_TASK, START, 3, 7),)),
    ("runcounts", "number_of_run", "task standing run", ((RUN_TASK, START, RUN),)),
    ("webs", "web_row", "task standing", ((RUN_TASK, START),)),
    ("ranks", "soonest", "task standing", ((RUN_TASK, START), (RUN_TASK, OUT))),
    ("ranks", "rank_row", "task standing", ((RUN_TASK, START),)),
    ("ranks", "move_worth", "task standing move", ((RUN_TASK, START, ()),)),
    ("ranks", "best_moves", "task standing", ((RUN_TASK, START),)),
    ("plans", "live_plan", "task standing", ((RUN_TASK, START), (RUN_TASK, OUT))),
    ("plans", "worst_course", "task standing", ((RUN_TASK, START),)),
    ("lateness", "lateness_table", "task standing ticks", ((RUN_TASK, START, 3), (RUN_TASK, OUT, None))),
    ("dues", "dues_fault", "task standing value", ((RUN_TASK, START, (4,)), (RUN_TASK, START, [4]))),
    ("dues", "need_dues", "task standing dues", ((RUN_TASK, START, (4,)),)),
    ("dues", "freed_task", "task dues", ((RUN_TASK, (-1,)),)),
    ("dues", "freed", "task standing dues", ((RUN_TASK, START, (-1,)),)),
    ("dues", "after_claim", "task standing dues move late", ((RUN_TASK, START, (4,), STEP, ((0, 1),)),)),
    ("dues", "can_be_kept", "task standing dues", ((RUN_TASK, START, (4,)), (RUN_TASK, START, (3,)))),
    ("dues", "keeping_moves", "task standing dues", ((RUN_TASK, START, (5,)),)),
    ("dues", "least_due", "task standing dues sample", ((RUN_TASK, START, (-1,), 0),)),
    ("duepapers", "due_plan", "task standing dues", ((RUN_TASK, START, (4,)),)),
    ("duepapers", "due_table", "task standing dues", ((RUN_TASK, START, (3,)),)),
    ("planchecks", "plan_fault", "task paper", ((PAPER_TASK, PAPER), (PAPER_TASK, [PAPER]))),
    ("planchecks", "is_live_plan", "task standing ticks paper", (
        (PAPER_TASK, START, 2, PAPER), (PAPER_TASK, START, 2, [PAPER]))),
    ("tablechecks", "table_fault", "task paper", ((PAPER_TASK, TABLE), (PAPER_TASK, [TABLE]))),
    ("tablechecks", "is_lateness_table", "task standing ticks paper", (
        (PAPER_TASK, START, 1, TABLE), (PAPER_TASK, START, None, [TABLE]))),
    ("duechecks", "due_plan_fault", "task standing dues paper", (
        (PAPER_TASK, START, (2,), DUE_PAPER), (PAPER_TASK, START, (2,), [DUE_PAPER]))),
    ("duechecks", "due_table_fault", "task standing dues paper", (
        (PAPER_TASK, START, (1,), DUE_TABLE), (PAPER_TASK, START, (2,), [DUE_TABLE]))),
    ("duechecks", "is_due_plan", "task standing dues paper", (
        (PAPER_TASK, START, (2,), DUE_PAPER), (PAPER_TASK, START, (2,), [DUE_PAPER]))),
    ("duechecks", "is_due_table", "task standing dues paper", (
        (PAPER_TASK, START, (1,), DUE_TABLE), (PAPER_TASK, START, (2,), [DUE_TABLE]))),
    ("duechecks", "due_clash", "task standing dues plan table", (
        (PAPER_TASK, START, (1,), ((START, (1,), STEP),), DUE_TABLE),)),
    ("clashes", "clash", "task standing plan table", ((PAPER_TASK, START, ((START, STEP, 1),), TABLE),)),
    ("trims", "trimmed_plan", "task standing paper", ((PAPER_TASK, START, PAPER),)),
    ("trims", "trimmed_table", "task standing paper", ((PAPER_TASK, START, TABLE),)),
    ("trims", "tight_plan", "task paper", ((PAPER_TASK, PAPER),)),
    ("trims", "loose_table", "task paper", ((PAPER_TASK, TABLE),)),
    ("paperjoins", "joined_plans", "task paper other", ((PAPER_TASK, PAPER, PAPER[1:]),)),
    ("paperjoins", "joined_tables", "task paper other", ((PAPER_TASK, TABLE, TABLE[1:]),)),
    ("histories", "ends", "task standing paper", ((PAPER_TASK, START, PAPER),)),
    ("histories", "history_of", "task standing paper number", ((PAPER_TASK, START, PAPER, 1),)),
    ("histories", "number_of", "task standing paper history", (
        (PAPER_TASK, START, PAPER, (((0, 1),),)), (PAPER_TASK, START, PAPER, [((0, 1),)]))),
    ("histories", "led", "task standing paper history", ((PAPER_TASK, START, PAPER, (((0, 1),),)),)),
    ("links", "order_fault", "task order", ((TWO_TASK, TWO_ORDER),)),
    ("links", "is_sound", "task order", ((TWO_TASK, TWO_ORDER),)),
    ("links", "order_links", "task order", ((TWO_TASK, TWO_ORDER),)),
    ("links", "led_jobs", "task order", ((TWO_TASK, TWO_ORDER),)),
    ("ways", "way_count", "task order job", ((TWO_TASK, TWO_ORDER, (0, 2)),)),
    ("ways", "ways_to", "task order job", ((TWO_TASK, TWO_ORDER, (0, 2)),)),
    ("ways", "begins", "task order fate", ((TWO_TASK, TWO_ORDER, FATE),)),
    ("waits", "worst_wait", "task order sample step", ((TWO_TASK, TWO_ORDER, 1, 1),)),
    ("waits", "keeping_paper", "task order sample step window", ((TWO_TASK, TWO_ORDER, 1, 1, 2),)),
    ("waits", "breaking_paper", "task order sample step window", ((TWO_TASK, TWO_ORDER, 1, 1, 1),)),
    ("waits", "is_keeping", "task order sample step window paper", (
        (TWO_TASK, TWO_ORDER, 1, 1, 2, KEEPING), (TWO_TASK, TWO_ORDER, 1, 1, 2, [KEEPING]))),
    ("waits", "is_breaking", "task order sample step window paper", (
        (TWO_TASK, TWO_ORDER, 1, 1, 1, ((0, 0), (0, 1))), (TWO_TASK, TWO_ORDER, 1, 1, 1, [(0, 0)]))),
    ("ends", "worst_end", "task order", ((TWO_TASK, TWO_ORDER),)),
    ("ends", "end_paper", "task order", ((TWO_TASK, TWO_ORDER),)),
    ("ends", "is_end_paper", "task order ticks paper", (
        (TWO_TASK, TWO_ORDER, 4, ((2, 3, 4), (2,))), (TWO_TASK, TWO_ORDER, 4, [(2, 3, 4), (2,)]))),
    ("ends", "keeps_windows", "task order", ((TWO_TASK, TWO_ORDER),)),
    ("timetables", "least_timetable", "task order", ((TWO_TASK, TWO_ORDER),)),
    ("timetables", "ring_of", "task order", ((TWO_TASK, TWO_ORDER), (RUN_TASK, RUN_ORDER))),
    ("timetables", "is_timetable", "task order paper", (
        (TWO_TASK, TWO_ORDER, ((0, 2, 3), (1,))), (TWO_TASK, TWO_ORDER, [(0, 2, 3), (1,)]))),
    ("timetables", "is_ring", "task order paper", ((RUN_TASK, RUN_ORDER, ()), (RUN_TASK, RUN_ORDER, []))),
    ("timetables", "held_order", "task order paper", ((TWO_TASK, TWO_ORDER, ((0, 2, 3), (1,))),)),
    ("playing", "play", "task order fate", ((TWO_TASK, TWO_ORDER, FATE),)),
    ("playing", "order_of", "task history", ((RUN_TASK, RUN),)),
    ("armrows", "arm_rows", "task order", ((TWO_TASK, TWO_ORDER),)),
    ("armrows", "is_arm_rows", "task order paper", ((TWO_TASK, TWO_ORDER, ()), (TWO_TASK, TWO_ORDER, []))),
    ("armrows", "is_unled", "task order jobs", ((TWO_TASK, TWO_ORDER, ((0, 1),)), (TWO_TASK, TWO_ORDER, [(0, 1)]))),
    ("lists", "is_open", "task", ((EVEN_TASK,),)),
    ("lists", "list_run", "task samples ticks", ((EVEN_TASK, (0,), ((2,),)),)),
    ("renamings", "is_renaming", "task value", ((TWO_TASK, RENAMING), (TWO_TASK, [RENAMING]))),
    ("renamings", "renamed_task", "task renaming", ((TWO_TASK, RENAMING),)),
    ("renamings", "renamed_standing", "task standing renaming", ((TWO_TASK, start(TWO_TASK), RENAMING),)),
    ("renamings", "renamed_move", "task standing move renaming", ((TWO_TASK, start(TWO_TASK), STEP, RENAMING),)),
    ("renamings", "renamed_lateness", "task standing move lateness renaming", (
        (TWO_TASK, start(TWO_TASK), STEP, ((0, 0),), RENAMING),)),
    ("renamings", "joined_renaming", "task renaming other", ((TWO_TASK, RENAMING, RENAMING),)),
    ("renamings", "undone_renaming", "task renaming", ((TWO_TASK, RENAMING),)),
    ("symmetries", "symmetries", "task", ((TWIN,),)),
    ("symmetries", "form_of", "task standing", ((TWO_TASK, start(TWO_TASK)),)),
    ("symmetries", "alike", "task standing other", ((TWO_TASK, start(TWO_TASK), start(TWO_TASK)),)),
    ("classes", "fixed_count", "task symmetry", ((TWIN, ((1, 0), (0,))),)),
    ("classes", "classes", "task", ((TWIN,),)),
    ("classes", "class_ranks", "task", ((TWIN,),)),
    ("classes", "class_plan", "task", ((TWIN,),)),
    ("classes", "spread_plan", "task", ((TWIN,),)),
    ("covers", "pair_word", "task standing other place", ((RUN_TASK, LAST, PAPER_TASK, START),)),
    ("covers", "cover_fault", "task other cover", ((PAPER_TASK, PAPER_TASK, COVER), (RUN_TASK, PAPER_TASK, [COVER]))),
    ("partings", "parting_fault", "task other parting", (
        (PAPER_TASK, PAPER_TASK, PARTING), (PAPER_TASK, PAPER_TASK, [PARTING]))),
    ("comparing", "compared", "task standing other place", (
        (EASY, START, PAPER_TASK, START), (PAPER_TASK, START, EASY, START))),
    ("easier", "is_easier", "task other", ((EASY, PAPER_TASK), (PAPER_TASK, EASY))),
    ("easier", "led_standing", "task other place", ((EASY, PAPER_TASK, START), (EASY, PAPER_TASK, RUNNING))),
    ("easier", "easier_cover", "task other", ((EASY, PAPER_TASK),)),
    ("leading", "joined_covers", "task other third cover paper", ((EASY, EASY, PAPER_TASK, COVER, COVER),)),
    ("leading", "united_covers", "task other cover paper", ((EASY, PAPER_TASK, COVER, COVER),)),
    ("leading", "led_plan", "task other cover plan", ((EASY, PAPER_TASK, COVER, PAPER),)),
    ("houses", "house_new", "lab", ((HOUSE_LAB,),)),
    ("houses", "house_faults", "value", ((ASKED,), ([ASKED],))),
    ("houses", "need_house", "house", ((ASKED,),)),
    ("houses", "house_task", "house", ((ASKED,),)),
    ("housemoves", "house_move", "house", ((ASKED,),)),
    ("housemoves", "house_latenesses", "house", ((ASKED,),)),
    ("housing", "house_step", "house event", tuple((ASKED, event) for event in FULL_EVENTS + (
        ("waive", 0), ("take", 0))) + ((house_step(ASKED, ("break", 0))[0], ("mend", 0, 1)),)),
    ("housepapers", "asked_due", "house sample", ((ASKED, LONG_SAMPLE),)),
    ("housepapers", "asked_paper", "house sample", ((ASKED, LONG_SAMPLE),)),
    ("housepapers", "back_paper", "house tool number", ((ASKED, 0, 0),)),
    ("replays", "replay_fault", "lab entries", ((HOUSE_LAB, LOG), (HOUSE_LAB, MISSED))),
    ("replays", "replayed", "lab entries", ((HOUSE_LAB, LOG),)),
    ("replays", "house_after", "lab entries", ((HOUSE_LAB, LOG),)),
    ("questions", "log_questions", "lab entries", ((HOUSE_LAB, LOG),)),
    ("judges", "judged", "lab entries papers", ((HOUSE_LAB, LOG, LOG_PAPERS), (HOUSE_LAB, LOG, [LOG_PAPERS]))),
    ("judges", "log_of", "lab events", ((HOUSE_LAB, FULL_EVENTS),)),
    ("judges", "papers_of", "lab entries", ((HOUSE_LAB, LOG),)),
    ("blames", "kept_row", "lab entries", ((HOUSE_LAB, MISSED),)),
    ("blames", "blame", "lab entries", ((HOUSE_LAB, MISSED),)),
    ("loglines", "log_text", "lab entries", ((HOUSE_LAB, LOG),)),
    ("loglines", "read_log", "text", ((LOG_TEXT,),)),
    ("loglines", "log_text_fault", "text", ((LOG_TEXT,), (LOG_TEXT[:-1],))),
    ("loglines", "mended_log", "text", ((LOG_TEXT[:-1],),)),
    ("loglines", "recovered", "text", ((LOG_TEXT[:-1],),)),
    ("tinytasks", "tiny_count", "shape", ((SHAPE,),)),
    ("tinytasks", "tiny_task", "shape number", ((SHAPE, 3),)),
    ("tinyholds", "statement_faults", "task", ((RUN_TASK,),)),
    ("leasttasks", "tiny_number", "shape task", ((SHAPE, tiny_task(SHAPE, 3)), (SHAPE, RUN_TASK))),
    ("leasttasks", "least_task", "shape wish first many", ((SHAPE, "never", 0, 12),)),
    ("leasttasks", "is_least_task", "shape wish first number", ((SHAPE, "never", 0, 7),)),
    ("leasttasks", "tiny_spread", "shape", ((SHAPE,),)),
    ("slack", "changed", "task what many", ((RUN_TASK, WHAT, 2),)),
    ("slack", "slack_of", "task what ticks", ((RUN_TASK, WHAT, 6),)),
    ("slack", "edge", "task what ticks", ((RUN_TASK, WHAT, 5),)),
    ("stairs", "corners", "task what other ticks", ((RUN_TASK, WHAT, ("step", 0, 1), 6),)),
)


def is_plain_value(value):
    """Whether a value is told as [1] says: of plain kinds throughout."""
    if type(value) is tuple:
        return all(is_plain_value(part) for part in value)
    return type(value) in (int, str, bool, type(None))


class CallsTest(unittest.TestCase):
    def test_names_and_parameters(self):
        for module, name, words, _ in CALLS:
            call = getattr(importlib.import_module("washedarms." + module), name)
            self.assertTrue(inspect.isfunction(call))
            self.assertEqual(call.__module__, "washedarms." + module)
            parameters = inspect.signature(call).parameters.values()
            self.assertEqual([one.name for one in parameters], words.split(), name)
            self.assertTrue(all(one.kind == one.POSITIONAL_OR_KEYWORD and one.default is one.empty
                                for one in parameters))

    def test_by_place_and_by_name(self):
        for module, name, words, rows in CALLS:
            call = getattr(importlib.import_module("washedarms." + module), name)
            for row in rows:
                kept = copy.deepcopy(row)
                told = call(*row)
                names = words.split()
                self.assertEqual(call(**dict(zip(names, row))), told)
                self.assertEqual(call(*row[:1], **dict(zip(names[1:], row[1:]))), told)
                self.assertEqual(call(**dict(reversed(list(zip(names, row))))), told)
                self.assertEqual(call(*kept), told)
                self.assertEqual(row, kept)
                self.assertTrue(is_plain_value(told), (name, told))

    def test_what_was_told_may_be_passed(self):
        many = importlib.import_module("washedarms.numbering").standings_number(GREAT_TASK)
        self.assertIs(type(many), int)
        text = importlib.import_module("washedarms.tasktexts").task_text(GREAT_TASK)
        self.assertEqual(importlib.import_module("washedarms.tasktexts").read_task(text), GREAT_TASK)

    def test_truths(self):
        for module, name, _, rows in CALLS:
            if name.startswith("is_"):
                call = getattr(importlib.import_module("washedarms." + module), name)
                for row in rows:
                    self.assertIs(type(call(*row)), bool, name)

    def test_deeply_nested_values(self):
        deep = ()
        for _ in range(60):
            deep = (deep,)
        for module, name, words, rows in CALLS:
            if words.split()[-1] in ("value", "pairs", "rows", "paper", "partition", "move", "lateness", "chart",
                                     "cover", "parting", "papers", "history", "jobs", "lot"):
                call = getattr(importlib.import_module("washedarms." + module), name)
                if len(rows) == 2:
                    self.assertIn(type(call(*rows[0][:-1], deep)), (bool, tuple, int, str, type(None)))


class PackageTest(unittest.TestCase):
    def test_the_folder(self):
        folder = os.path.join(os.path.dirname(os.path.dirname(os.path.abspath(__file__))), "washedarms")
        files = [name for name in os.listdir(folder) if name != "__pycache__"]
        self.assertIn("__init__.py", files)
        for name in files:
            self.assertTrue(name.endswith(".py"), name)
            with open(os.path.join(folder, name), encoding="ascii") as file:
                text = file.read()
            lines = text.split("\n")
            self.assertLess(len(lines), 401, name)
            self.assertLess(max(len(line) for line in lines), 121, name)
            for line in lines:
                self.assertFalse(line.startswith("import "), line)
                if line.startswith("from ") and " import " in line:
                    self.assertTrue(line.startswith("from washedarms."), line)


if __name__ == "__main__":
    unittest.main()
