"""The interface: names, arguments and where each is defined."""

import importlib
import inspect
import unittest

FUNCTIONS = {
    "houses": {"is_stand": "(house, thing)"},
    "pulls": {
        "help_in": "(house, stand, latch)", "pull": "(house, stand, latch, swell)", "wants": "(house, stand, swell)",
        "is_settled": "(house, stand, swell)", "span": "(house, stand)", "torn": "(house, stand)"},
    "judge_torn": {"torn_shows": "(house, stand, paper)"},
    "turning": {
        "moved": "(house, by)", "turned": "(house)", "renamed": "(house, order)", "others": "(house, stand)"},
    "htexts": {
        "show_house": "(house)", "show_stand": "(stand)", "read_house": "(text)", "read_stand": "(text)"},
    "settling": {
        "climbed": "(house, stand, swell)", "sunk": "(house, stand, swell)",
        "climb_row": "(house, stand, swell, *, order=None)", "sink_row": "(house, stand, swell, *, order=None)",
        "climb_waves": "(house, stand, swell)", "sink_waves": "(house, stand, swell)",
        "up_first": "(house, stand, swell)", "down_first": "(house, stand, swell)",
        "climb_paper": "(house, stand, swell)", "sink_paper": "(house, stand, swell)", "least_at": "(house, swell)",
        "greatest_at": "(house, swell)", "joined": "(house, swell, one, other)", "met": "(house, swell, one, other)",
        "settled_at": "(house, swell)"},
    "judge_settled": {"settling_shows": "(house, stand, swell, end, paper)"},
    "legs": {
        "leg": "(house, stand, start, end)", "led": "(house, stand, history)",
        "there_and_back": "(house, stand, swell, far)", "bears": "(house, stand, swell, far)",
        "is_within": "(one, other)", "helped_no_less": "(house, other)",
        "passing": "(house, stand, history, other, other_stand, other_history)"},
    "falls": {
        "falls": "(house, stand, start, end)", "rounds": "(house, stand, swell, *, up=True)",
        "next_move": "(house, stand, swell, *, up=True)", "branch": "(house, stand, swell, *, up=True)",
        "going": "(house, stand, swell, latch)", "fall_paper": "(house, stand, swell, *, up=True)",
        "going_paper": "(house, stand, swell, latch)", "floor": "(house)", "roof": "(house)"},
    "judge_falls": {"fall_holds": "(house, paper)", "going_holds": "(house, stand, swell, paper)"},
    "residues": {
        "turns": "(history, *, ahead=None)", "residue": "(history, *, ahead=None)", "waist": "(history)",
        "taking_out": "(history, *, ahead=None)", "are_alike": "(one, other, *, ahead=None)",
        "parting": "(one, other)"},
    "judge_residues": {
        "residue_shows": "(history, places, told, *, ahead=None)", "parting_shows": "(one, other, latch)"},
    "least": {"bare": "(house, stand, history)"},
    "mends": {"kind_of_mend": "(old, new)", "mended": "(old, new, swell, stand)"},
    "ktexts": {"show_keeper": "(keeper)", "read_keeper": "(text)"},
    "swings": {
        "goings": "(house, stand, history)", "work": "(goings)", "latch_turns": "(house, stand, start, far)",
        "loss": "(house, stand, start, far)", "area": "(house, stand, start, far)",
        "branches": "(house, stand, start, far)", "swing_paper": "(house, stand, start, far)"},
    "judge_swings": {"swing_holds": "(house, stand, start, far, paper)"},
    "ledger": {"ledger": "(house, stand, history)"},
    "dips": {
        "ends": "(house, stand)", "deepest_dip": "(house, stand)", "highest_peak": "(house, stand)",
        "widening": "(house, stand, *, way='dip')"},
    "comings": {
        "island_of": "(house, stand)", "leaving": "(house, stand)", "fewest": "(house, stand)",
        "coming": "(house, stand)"},
    "judge_comings": {"coming_shows": "(house, stand, paper)"},
    "reach": {"reached": "(house, *, most=400)", "islands": "(house)"},
    "apart": {
        "counts": "(house, stand, history)", "next_pair": "(house, stand, other, there, *, up=True)",
        "told_apart": "(house, stand, other, there, swell)"},
    "judge_apart": {"apart_shows": "(house, stand, other, there, swell, paper)"},
    "plain": {"is_plain": "(house)", "heap_of": "(house)", "plain_house": "(heap)"},
    "rises": {
        "first_rise": "(house, low, high)", "closed_swings": "(house, low, high)", "rises": "(house)",
        "counted": "(house, history)"},
    "likeness": {"like": "(house)"},
    "judge_like": {"like_holds": "(house, paper)"},
    "orders": {"read_order": "(row)", "show_order": "(order)", "is_deed": "(order)"},
}

CLASSES = {
    ("houses", "House"): {
        "__init__": "(self, latches, helps=())", "latches": "(self)", "helps": "(self)", "up_at": "(self, latch)",
        "down_at": "(self, latch)", "all_help": "(self, latch)", "__eq__": "(self, other)", "__len__": "(self)",
        "__repr__": "(self)"},
    ("legthings", "Leg"): {
        "__init__": "(self, house, stand, start, end)", "its_house": "(self)", "first_stand": "(self)",
        "last_stand": "(self)", "from_swell": "(self)", "to_swell": "(self)", "goes": "(self)", "its_falls": "(self)",
        "went": "(self)", "stand_at": "(self, swell)", "cut_at": "(self, swell)", "joined_with": "(self, leg)",
        "turned_round": "(self)", "__eq__": "(self, other)", "__len__": "(self)", "__repr__": "(self)"},
    ("keepers", "Keeper"): {
        "__init__": "(self, house, swell, *, stand=())", "to": "(self, swell)",
        "through": "(self, history, *, times=1)", "house_now": "(self)", "stand_now": "(self)", "swell_now": "(self)",
        "base": "(self)", "residue": "(self)", "forget": "(self)", "mark": "(self, name)", "back": "(self, name)",
        "marks": "(self)", "undo": "(self)", "mend": "(self, house)", "twin": "(self)", "__eq__": "(self, other)",
        "__len__": "(self)", "__repr__": "(self)"},
    ("ledger", "Ledger"): {
        "__init__": "(self, house, stand, swell)", "to": "(self, swell)", "through": "(self, history, *, times=1)",
        "house_now": "(self)", "stand_now": "(self)", "swell_now": "(self)", "rest": "(self)", "rows": "(self)",
        "loss": "(self)", "work": "(self)", "turned": "(self, latch)", "last": "(self, latch)",
        "__eq__": "(self, other)", "__len__": "(self)", "__repr__": "(self)"},
    ("bench", "Bench"): {
        "__init__": "(self)", "say": "(self, row)", "sit": "(self, rows)", "log": "(self)", "named": "(self)",
        "copied": "(self)", "said_again": "(self, log)", "__eq__": "(self, other)", "__len__": "(self)"},
}


class InterfaceTest(unittest.TestCase):
    def test_functions_stand_in_their_files_with_their_arguments(self):
        for file, functions in FUNCTIONS.items():
            module = importlib.import_module(f"swaykeep.{file}")
            for name, arguments in functions.items():
                function = getattr(module, name)
                self.assertEqual(f"swaykeep.{file}", function.__module__, name)
                self.assertEqual(arguments, str(inspect.signature(function)), name)

    def test_methods_stand_in_the_classes_themselves(self):
        for (file, name), methods in CLASSES.items():
            found = getattr(importlib.import_module(f"swaykeep.{file}"), name)
            self.assertEqual(f"swaykeep.{file}", found.__module__)
            for method, arguments in methods.items():
                self.assertEqual(arguments, str(inspect.signature(vars(found)[method])), method)


if __name__ == "__main__":
    unittest.main()
