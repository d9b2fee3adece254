"""The interface: each name in its own file, with its arguments by places, by names, and what may be left out."""

import importlib
import inspect
import unittest

FUNCTIONS = {
    "signs": ["is_name(thing)", "are_signs(thing)", "is_place(thing)"],
    "bands": ["Band(name, long, *, pace=0)", "Press(above, below, table, *, rhythm='x')",
              "Work(signs, bands, presses=())"],
    "courses": ["Course(work, *, puts=(), lifts=())"],
    "rows": ["need_rows(work, rows)", "sign_at(work, rows, place)", "with_sign(work, rows, place, sign)"],
    "beats": ["presses_at(course, beat)", "next_rows(course, rows, beat)", "run(course, rows, beats, *, begin=0)"],
    "rounds": ["behind(course, rows, beats, *, begin=0)", "round_of(course, rows, *, begin=0)"],
    "firsts": ["is_met(work, rows, wish)", "first_seen(course, rows, wish, *, begin=0)",
               "when_seen(course, rows, wish, *, begin=0)", "told_apart(course, one, other, windows, *, begin=0)"],
    "turns": ["changed_work(work, change)", "changed_course(course, change)", "changed_rows(work, rows, change)",
              "changed_place(work, place, change)", "undoing(work, change)"],
    "passes": ["where(work, place, beats)", "passes(work, press, side, place)",
               "how_many_passes(work, press, side, place, *, upto)",
               "next_pass(work, press, side, place, *, behind=0)"],
    "maps": ["together(signs, one, other)", "power(signs, one, times)", "turned_map(signs, one)",
             "map_round(signs, one)", "times_to(signs, one, other)", "is_one_to_one(signs, one)",
             "sources(signs, one, sign)"],
    "web": ["web(work)", "round_of_all(work)", "ever(work, wish)"],
}

METHODS = {
    ("bands", "Band"): ["called(self)", "long(self)", "pace(self)"],
    ("bands", "Press"): ["above(self)", "below(self)", "table(self)", "rhythm(self)"],
    ("bands", "Work"): ["signs(self)", "bands(self)", "presses(self)", "places(self)", "place_in(self, place)",
                        "common(self)", "__len__(self)", "__eq__(self, other)"],
    ("courses", "Course"): ["work(self)", "puts(self)", "lifts(self)", "works(self, press, beat)", "laid(self, beat)",
                            "deed_beats(self)", "__eq__(self, other)"],
}


def arguments(thing):
    """The arguments of a function or class as the interface writes them, annotations aside."""
    found = inspect.signature(thing)
    plain = [each.replace(annotation=inspect.Parameter.empty) for each in found.parameters.values()]
    return str(found.replace(parameters=plain, return_annotation=inspect.Signature.empty))


class Interface(unittest.TestCase):

    def test_functions_and_classes_stand_in_their_files(self):
        for file, lines in FUNCTIONS.items():
            module = importlib.import_module("bandprint." + file)
            for line in lines:
                thing = getattr(module, line.partition("(")[0])
                self.assertEqual(thing.__module__, "bandprint." + file)
                self.assertEqual(thing.__name__ + arguments(thing), line)

    def test_methods_stand_in_their_classes(self):
        for (file, name), lines in METHODS.items():
            made = getattr(importlib.import_module("bandprint." + file), name)
            for line in lines:
                method = vars(made)[line.partition("(")[0]]
                self.assertEqual(method.__name__ + arguments(method), line)


if __name__ == "__main__":
    unittest.main()
