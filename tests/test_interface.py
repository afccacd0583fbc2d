"""Names, parameters and files of the interface, for the parts that have landed."""

import importlib
import inspect
import unittest

INTERFACE = {
    "programs": {
        "is_program": "thing", "states_of": "variables", "names_in": "program", "names_set": "program",
        "value_of": "expression variables state", "holds": "condition variables state",
        "states_where": "variables condition", "size_of": "program", "has_loops": "program",
        "has_choices": "program",
    },
    "texts": {"read_program": "text", "write_program": "program"},
    "building": {
        "then": "program other", "either": "condition program other", "around": "condition program",
        "with_vars": "program variables", "renamed": "program names",
    },
    "worlds": {
        "worlds": "program state", "world_of": "program state number", "run_world": "program state thing",
        "worlds_table": "program", "unrolled": "program count", "lost": "program state count",
    },
    "tables": {
        "table": "program", "is_table": "variables thing", "joined": "variables table other",
        "mixed": "variables table other share", "looped": "condition variables table",
    },
    "ahead": {
        "ahead": "program shares", "chance": "program shares condition", "chance_never": "program shares",
        "chances": "program shares",
    },
    "values": {
        "behind": "program values", "let_by": "program", "never": "program", "wanted": "program values shares",
    },
    "loops": {
        "above_paper": "condition program values", "above_holds": "condition program values thing",
        "below_paper": "condition program values", "below_holds": "condition program values thing",
        "ends_surely": "condition program", "rank_paper": "condition program",
    },
    "same": {
        "alike": "program other", "multiple": "program other", "alike_within": "program other",
        "same_table": "program other", "parting": "program other", "branch_parting": "program other",
        "alike_for": "program other names", "parting_for": "program other names", "row_classes": "program",
        "never_matters": "program",
    },
    "orders": {
        "sure": "program condition", "possible": "program condition", "less_sure": "program other",
        "apart": "program other",
    },
    "normals": {"normal": "program", "draw_program": "variables pairs"},
    "joins": {
        "plain_table": "variables", "set_table": "variables name expression", "draw_table": "variables name pairs",
        "see_table": "variables condition", "branched": "condition variables table other",
        "often": "variables table count", "joined_table": "program", "looped_for": "condition variables table count",
        "rounds": "condition variables table", "table_unlike": "variables table other",
    },
    "looppapers": {
        "loop_paper": "condition variables table", "loop_paper_holds": "condition variables table thing",
    },
    "tickets": {
        "run_by": "program state tickets", "tickets_of": "program state world", "tickets_least": "program state",
        "by_ticket": "program state number",
    },
    "coins": {
        "coin_shares": "machine count", "coin_cost": "machine", "toss": "machine tosses", "coins_least": "parts",
        "coin_machine": "parts", "coin_holds": "parts thing", "coin_best": "parts thing",
        "row_machine": "program state",
    },
    "papers": {"step_right": "variables thing", "paper_holds": "program other thing"},
    "passes": {
        "tidied": "program", "folded": "program", "undrawn": "program", "cleared": "program", "decided": "program",
        "bettered": "program", "seen_early": "program",
    },
    "costs": {"cost": "program state", "costs": "program", "loop_gain": "condition program"},
    "choices": {
        "way_table": "program way", "ways_many": "program", "way_number": "program way", "nth_way": "program number",
        "greatest": "program shares condition", "least": "program shares condition",
        "greatest_way": "program shares condition", "least_way": "program shares condition",
        "way_holds": "program shares condition fraction thing", "bound_paper": "program shares condition",
        "bound_holds": "program shares condition fraction thing", "can": "program condition",
        "must": "program condition", "some_way_surely": "program condition", "worst_cost": "program state",
        "best_cost": "program state",
    },
    "learned": {
        "told_by": "program shares names", "guess": "program shares names asked",
        "guesses": "program shares names asked", "worth": "program shares names game",
    },
    "news": {
        "news_of": "program states names", "noisy": "news noise", "news_worth": "news leaning game",
        "tells_more": "news other", "noise_for": "news other", "game_against": "news other",
        "noise_holds": "news other thing", "game_holds": "news other thing", "same_news": "news other",
        "least_news": "news", "best_news": "tables",
    },
}
CLASSES = {
    ("session", "Session"): {
        "__init__": "variables shares", "do": "program", "see": "condition", "undo": "", "chance": "condition",
        "chance_never": "", "shares": "", "deeds": "", "weight": "", "program": "", "__len__": "", "__getitem__": "at",
        "__eq__": "other", "copy": "", "best_look": "names",
    },
    ("desk", "Desk"): {"__init__": "", "say": "row", "session": ""},
}


class InterfaceTest(unittest.TestCase):
    def test_functions_stand_in_their_files_with_their_parameters(self):
        for file, functions in INTERFACE.items():
            module = importlib.import_module(f"alikechances.{file}")
            for name, parameters in functions.items():
                with self.subTest(f"{file}.{name}"):
                    function = getattr(module, name)
                    self.assertEqual(function.__module__, f"alikechances.{file}")
                    told = list(inspect.signature(function).parameters.values())
                    self.assertEqual([parameter.name for parameter in told], parameters.split())
                    for parameter in told:
                        self.assertEqual(parameter.kind, parameter.POSITIONAL_OR_KEYWORD)
                        self.assertIs(parameter.default, parameter.empty)

    def test_classes_stand_in_their_files_with_their_methods(self):
        for (file, name), methods in CLASSES.items():
            found = getattr(importlib.import_module(f"alikechances.{file}"), name)
            self.assertEqual((found.__module__, found.__bases__), (f"alikechances.{file}", (object,)))
            for method, parameters in methods.items():
                with self.subTest(f"{name}.{method}"):
                    self.assertIn(method, vars(found))
                    told = list(inspect.signature(vars(found)[method]).parameters.values())[1:]
                    self.assertEqual([parameter.name for parameter in told], parameters.split())
                    for parameter in told:
                        self.assertEqual(parameter.kind, parameter.POSITIONAL_OR_KEYWORD)
                        self.assertIs(parameter.default, None if parameter.name == "shares" else parameter.empty)


if __name__ == "__main__":
    unittest.main()
