"""The interface: each name in its own file, with its arguments by places, by names, and what may be left out."""

import importlib
import inspect
import unittest

FUNCTIONS = {
    "signs": ["is_name(thing)", "are_signs(thing)", "is_place(thing)"],
    "bands": ["Band(name, long, *, pace=0)", "Press(above, below, table, *, rhythm='x')",
              "Work(signs, bands, presses=())"],
    "courses": ["Course(work, *, puts=(), lifts=())"],
    "rows": ["need_rows(work, rows)", "sign_at(work, rows, place)", "with_sign(work, rows, place, sign)"],
    "beats": ["presses_at(course, beat)", "next_rows(course, rows, beat)", "run(course, rows, beats, *, begin=0)"],
    "rounds": ["behind(course, rows, beats, *, begin=0)", "round_of(course, rows, *, begin=0)"],
    "firsts": ["is_met(work, rows, wish)", "first_seen(course, rows, wish, *, begin=0)",
               "when_seen(course, rows, wish, *, begin=0)", "told_apart(course, one, other, windows, *, begin=0)"],
    "turns": ["changed_work(work, change)", "changed_course(course, change)", "changed_rows(work, rows, change)",
              "changed_place(work, place, change)", "undoing(work, change)"],
    "passes": ["where(work, place, beats)", "passes(work, press, side, place)",
               "how_many_passes(work, press, side, place, *, upto)",
               "next_pass(work, press, side, place, *, behind=0)"],
    "joins": ["beside(one, other)", "apart(course)", "wound(work, name, times)"],
    "plain": ["plain(work)"],
    "whys": ["why(course, rows, place, beat, *, begin=0, ahead=None)"],
    "whylooks": ["shows_why(course, rows, place, beat, thing, *, begin=0, ahead=None)"],
    "lossless": ["is_lossless(work)", "two_of_one(work)", "back(work, rows, beats, *, begin)",
                 "turned_back(work, begin)"],
    "elders": ["elders(work, rows, beat, *, beats=1)"],
    "classes": ["classes(work, windows)", "hardest(work, windows)", "for_ever(work, other, windows)"],
    "maps": ["together(signs, one, other)", "power(signs, one, times)", "turned_map(signs, one)",
             "map_round(signs, one)", "times_to(signs, one, other)", "is_one_to_one(signs, one)",
             "sources(signs, one, sign)"],
    "web": ["web(work)", "round_of_all(work)", "ever(work, wish)"],
    "needs": ["asked(course, sightings, *, begin=0)", "needed_presses(course, sightings, *, begin=0)"],
    "trees": ["tree_of(course, sightings, *, begin=0)"],
    "treelooks": ["shows_tree(course, sightings, thing, *, begin=0)"],
    "boxes": ["boxes(work, tree)", "how_many(found)", "has(work, found, rows)", "first_rows(work, found)",
              "sure(work, found)"],
    "blame": ["blame(course, sightings, *, begin=0)", "shows_blame(course, sightings, thing, *, begin=0)"],
    "shown": ["shown(course, look, *, begin=0)", "shows_shown(course, look, thing, *, begin=0)",
              "would(course, sightings, look, *, begin=0)", "best_look(course, sightings, looks, *, begin=0)"],
    "matters": ["matters(course, place, look, *, begin=0)",
                "shows_matters(course, place, look, thing, *, begin=0)"],
    "both": ["both_show(one, look, other, look_there, *, begin=0)",
             "shows_both(one, look, other, look_there, thing, *, begin=0)"],
    "alike": ["alike(one, other, windows, beats, *, begin=0)",
              "echoes(course, place, other, delay, beats, *, begin=0)",
              "shows_alike(one, other, windows, beats, thing, *, begin=0)",
              "shows_echoes(course, place, other, delay, beats, thing, *, begin=0)"],
    "puts": ["wish_sightings(wish, beats, *, begin=0)", "lacks(work, box, rows, *, prices=None)",
             "fewest_puts(course, rows, wish, beats, *, begin=0, prices=None)"],
    "putlooks": ["shows_puts(course, rows, wish, beats, thing, *, begin=0, prices=None)"],
    "meetlooks": ["shows_meeting(cases, thing)"],
    "halltexts": ["show_hall(hall)", "read_hall(text)"],
    "desk": ["Desk()"],
    "meets": ["meeting(cases)", "head_start(one, other)", "least_with(rests, rounds, *, least=0)"],
    "hall": ["Hall()"],
    "texts": ["show_work(work)", "show_course(course)", "show_rows(work, rows)", "show_tree(nodes)",
              "read_work(text)", "read_course(text)", "read_rows(work, text)", "read_tree(text)"],
}

METHODS = {
    ("bands", "Band"): ["called(self)", "long(self)", "pace(self)"],
    ("bands", "Press"): ["above(self)", "below(self)", "table(self)", "rhythm(self)"],
    ("bands", "Work"): ["signs(self)", "bands(self)", "presses(self)", "places(self)", "place_in(self, place)",
                        "common(self)", "__len__(self)", "__eq__(self, other)"],
    ("courses", "Course"): ["work(self)", "puts(self)", "lifts(self)", "works(self, press, beat)", "laid(self, beat)",
                            "deed_beats(self)", "__eq__(self, other)"],
    ("hall", "Hall"): ["do(self, deed)", "several(self, deeds)", "undo(self)", "redo(self)", "names(self)",
                       "sort_of(self, name)", "work(self, name)", "stand(self, name)", "beginning(self, name)",
                       "rows(self, name)", "course(self, name)", "looks(self, name)", "tree(self, name)",
                       "how_many(self, name)", "sure(self, name)", "may_be(self, name, rows)", "has(self, name)",
                       "__eq__(self, other)", "__len__(self)"],
    ("desk", "Desk"): ["say(self, row)"],
}


def arguments(thing):
    """The arguments of a function or class as the interface writes them, annotations aside."""
    found = inspect.signature(thing)
    plain = [each.replace(annotation=inspect.Parameter.empty) for each in found.parameters.values()]
    return str(found.replace(parameters=plain, return_annotation=inspect.Signature.empty))


class Interface(unittest.TestCase):

    def test_functions_and_classes_stand_in_their_files(self):
        for file, lines in FUNCTIONS.items():
            module = importlib.import_module("bandprint." + file)
            for line in lines:
                thing = getattr(module, line.partition("(")[0])
                self.assertEqual(thing.__module__, "bandprint." + file)
                self.assertEqual(thing.__name__ + arguments(thing), line)

    def test_methods_stand_in_their_classes(self):
        for (file, name), lines in METHODS.items():
            made = getattr(importlib.import_module("bandprint." + file), name)
            for line in lines:
                method = vars(made)[line.partition("(")[0]]
                self.assertEqual(method.__name__ + arguments(method), line)


if __name__ == "__main__":
    unittest.main()
