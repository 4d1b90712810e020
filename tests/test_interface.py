"""All that the interface names is there, with as many arguments as it tells."""

import importlib
import inspect
import unittest

FUNCTIONS = {
    "names": {
        "is_name": 1, "is_query": 1, "is_laying": 3, "fits": 2, "first_laying": 2, "last_laying": 2, "how_many": 2,
    },
    "points": {"points": 3, "best": 2},
    "finding": {"finds": 3, "rank_of": 3, "ties": 2},
    "showing": {"runs": 2, "shown": 2, "read_shown": 1},
    "bounds": {"bound": 2, "found_by_bound": 3},
    "wording": {"fit_words": 2, "points_by_words": 2, "found_by_words": 3, "places_by_words": 2},
    "sieves": {"telling": 1},
    "slips": {"least_slips": 2, "best_with_slips": 3, "finds_with_slips": 4},
    "writing": {"written": 1, "read": 1},
    "trailtexts": {"trail_text": 1, "read_trail": 2},
}
# For each class how many arguments it takes when made, and its methods with how many they take.
CLASSES = {
    "seekers": (
        "Seeker", 1,
        {"letter": 1, "back": 0, "typed": 0, "fitting": 0, "now": 1, "add": 1, "hide": 1, "looked": 0},
    ),
    "choosing": ("Chooser", 1, {"pick": 1, "forget": 1, "picked": 1, "found": 2, "usual": 1}),
    "sieves": ("Sieve", 1, {"left": 1, "add": 1, "signs": 0}),
    "pages": ("Pager", 2, {"ask": 1, "pointed": 0, "move": 1, "page": 0, "pages": 0, "turn": 1}),
    "trails": (
        "Trail", 1,
        {
            "ask": 1, "pick": 1, "asked": 0, "chosen": 0, "steps": 0, "back": 0, "forth": 0, "sizes": 0, "twin": 0,
        },
    ),
}


def how_many_arguments(called):
    return len(inspect.signature(called).parameters)


class Interface(unittest.TestCase):
    def test_functions(self):
        for module, functions in FUNCTIONS.items():
            file = importlib.import_module(f"fewfind.{module}")
            for name, many in functions.items():
                self.assertTrue(inspect.isfunction(getattr(file, name, None)), (module, name))
                self.assertEqual(how_many_arguments(getattr(file, name)), many, (module, name))

    def test_classes(self):
        for module, (name, given, methods) in CLASSES.items():
            kind = getattr(importlib.import_module(f"fewfind.{module}"), name)
            self.assertTrue(inspect.isclass(kind))
            self.assertEqual(how_many_arguments(kind), given, name)
            for method, many in methods.items():
                self.assertEqual(how_many_arguments(getattr(kind, method)), many + 1, (name, method))


if __name__ == "__main__":
    unittest.main()
