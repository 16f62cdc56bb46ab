"""That all names of the interface are there, in their files, with their parameters."""

import importlib
import inspect
import unittest

INTERFACE = {
    "sayings": {
        "is_saying": ["value"],
        "saying_chance": ["saying"],
        "is_possible": ["saying"],
        "inner_blocks": ["saying"],
        "barring_weights": ["saying"],
        "greatest_closed": ["saying"],
        "least_open": ["saying"],
        "mirrored_saying": ["saying"],
    },
    "steps": {
        "are_shares": ["value"],
        "closed_chance": ["saying", "shares"],
        "open_chance": ["saying", "shares"],
        "band_chance": ["band", "shares"],
        "parted": ["shares", "place", "part"],
    },
    "boxes": {
        "is_box": ["value"],
        "plain_box": ["box"],
        "box_chance": ["box"],
        "box_table": ["box"],
        "mirrored_box": ["box"],
        "met_box": ["box", "other"],
        "saying_of_box": ["box"],
    },
    "bands": {
        "is_band": ["value"],
        "band_box": ["band"],
        "band_sureness": ["band"],
        "even_band": ["count", "width"],
        "even_sureness": ["count", "width"],
        "one_sided_sureness": ["count", "width"],
        "even_pieces": ["count"],
        "even_width_near": ["count", "share", "many"],
    },
    "places": {
        "place_sureness": ["count", "share", "stretch"],
        "best_place": ["count", "share", "wish"],
        "fewest_for_place": ["share", "wish"],
        "places_box": ["count", "claims"],
        "places_sureness": ["count", "claims"],
    },
    "held": {
        "held_sureness": ["count", "share", "stretch"],
        "best_held": ["count", "share", "wish"],
        "fewest_for_held": ["share", "wish"],
        "groups_sureness": ["count", "groups"],
    },
    "further": {
        "further_chance": ["count", "further", "stretch", "number"],
        "further_sureness": ["count", "further", "stretch", "number"],
        "further_groups": ["count", "further", "groups"],
        "rank_chance": ["scores", "number"],
        "rank_needed": ["count", "wish"],
    },
    "cuttings": {
        "cut": ["rows", "rules"],
        "block_of": ["rows", "rules", "new"],
        "left_out_blocks": ["rows", "rules"],
        "block_counts": ["rows", "rules", "more"],
        "block_chance": ["count", "further", "number", "within"],
    },
    "words": {
        "is_word": ["value"],
        "all_words": ["n", "m"],
        "word_of": ["first", "second"],
        "pair_count": ["word"],
        "rank_sum": ["word"],
        "gap_of": ["word"],
        "is_between": ["word", "lows", "highs"],
        "stair_count": ["n", "m", "lows", "highs"],
        "gap_sureness": ["n", "m", "gap"],
        "set_sureness": ["words"],
        "word_chance": ["word", "power"],
        "set_power": ["words", "power"],
        "best_words": ["n", "m", "many", "power"],
        "is_best": ["words", "power"],
        "is_closed_up": ["words"],
        "closed_up": ["words"],
        "lowest_words": ["words"],
    },
    "shifts": {
        "pair_counts": ["n", "m"],
        "shift_sureness": ["n", "m", "i", "j"],
        "differences": ["first", "second"],
        "shift_stretch": ["first", "second", "i", "j"],
        "best_shift": ["n", "m", "wish"],
    },
    "centres": {
        "sum_counts": ["n"],
        "centre_sureness": ["n", "i", "j"],
        "means_of_two": ["values"],
        "centre_stretch": ["values", "i", "j"],
        "best_centre": ["n", "wish"],
        "sign_word": ["values", "centre"],
        "low_sum": ["word"],
    },
    "checker": {
        "accepts": ["claim", "paper"],
    },
    "certificates": {
        "certify_possible": ["saying"],
        "certify_least": ["saying", "share"],
        "certify_band": ["band", "share"],
        "certify_places": ["count", "claims", "wish"],
        "certify_held": ["count", "groups", "wish"],
        "certify_further": ["count", "further", "groups", "wish"],
        "certify_closed": ["words"],
        "certify_best": ["words", "power"],
        "certify_shift": ["n", "m", "i", "j"],
        "certify_centre": ["n", "i", "j"],
    },
}


class Interface(unittest.TestCase):
    def test_that_each_function_is_defined_in_its_file_with_its_parameters(self):
        for module_name, functions in INTERFACE.items():
            module = importlib.import_module("anydraws." + module_name)
            for name, parameters in functions.items():
                with self.subTest(name):
                    function = getattr(module, name)
                    self.assertTrue(inspect.isfunction(function))
                    self.assertEqual(function.__module__, "anydraws." + module_name)
                    told = inspect.signature(function).parameters
                    self.assertEqual(list(told), parameters)
                    for parameter in told.values():
                        self.assertEqual(parameter.kind, inspect.Parameter.POSITIONAL_OR_KEYWORD)
                        self.assertIs(parameter.default, inspect.Parameter.empty)
