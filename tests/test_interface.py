import ast
import pathlib
import unittest

FOLDER = pathlib.Path(__file__).resolve().parent.parent / "pointsum"
# The names that each module has to define itself, with the number of their arguments.
NAMES = {
    "whole": "root 1 is_square 1 valuation 2 common 2",
    "primes": "is_shown 2 shown 1 is_prime 1 factors 1 class_of 1 class_of_fraction 1 class_times 2",
    "symbols": "symbol 2 root_mod 2 is_local_square 2",
    "roots": "square_roots 3 lifted 4 two_squares 1 three_forms 1",
    "polynomials": "value_at 2 times_of 2 derivative 1 common_part 2 roots_over 2 whole_roots 1 fraction_roots 1 count_between 3",
    "fractions": "plus 2 less 2 times 2 over 2 is_below 2 height 1 fractions_to 1",
    "curves": "is_curve 1 is_plain 1 numbers_of 1 j_of 1 short_form 1 plain_form 1",
    "changes": "led 2 whole_curve 1 then 2 back 1 changes_between 2 are_alike 2 led_point 2",
    "twists": "twist 2 twist_between 2",
    "points": "is_point 2 opposite 2 added 3 multiple 3 line_of 3 meets 2 halves 2 thirds 2 point_modulo 3",
    "models": "reduced 1 curve_of 2 least_model 1 is_least 1 scale_of 1",
    "falls": "singular_point 2 tangents 2 fall_at 2 falls 2 smooth_count 2",
    "finite": "order_of 2 finite_part 1 finite_form 1 finite_basis 1 count_bound 2",
    "twomaps": "beside 1 there 2 back 2 class_of_point 2 quartic_of 2 point_of_class 5 parents 2",
    "quartics": "is_quartic 1 at_reals 1 value_of 3 points_in 2",
    "local": "at_prime 2 everywhere 2 witness_at 2 bars_at 2 is_witness 3 is_bars 3",
    "lists": "list_of 1 found_classes 2 open_classes 2 found_point 3 rank_bounds 2 found_points 2 bars_of 1",
    "search": "parts_of 1 size_of 1 box_of 2",
    "heights": "doubling_forms 1 constants 1 height_bounds 3 pairing_bounds 4 determinant_bounds 3 least_height 3",
    "independence": "relations 4 basis_modulo 2 are_shown 4 shown_by 2",
    "saturation": "divided 3 is_saturated 3 saturated 3",
    "basis": "index_bound 4 whole_group 4 whole_points 3 as_sum 3",
    "fields": "is_curve_over 2 curve_modulo 2 opposite_over 3 added_over 4 multiple_over 4 is_point_over 3 points_over 2"
              " count_over 2 twist_over 2 changes_over 3 classes_over 1",
    "groups": "order_over 3 with_order 3 structure 2 basis 2 is_basis 3 span_size 3 log_over 4",
    "chains": "times_mod 4 count_of 2 chain 1 length_of 1",
    "wholepoints": "whole_within 2 all_points 1 all_whole 1",
    "runge": "quartic_points 4 cube_sums 1 line_products 4",
    "triangles": "triangle_curve 1 triangle_of 2 triangle_point 2 is_triangle 2 squares_in_steps 2 concord_curve 2 concord_of 3"
                 " concord_point 3 angled_of 1 cubes_curve 1 cubes_of 2 cubes_point 2 sum_of 3",
    "shown": "answer_to 1 certified 1 is_certified 3",
}
METHODS = {
    ("session", "Session"): "__init__ 1 name 3 note 3 strike 3 forget 2 entries 1 curve 2 noted 2 undo 1 redo 1 __eq__ 2 __len__ 1"
                            " __enter__ 1 __exit__ 4",
    ("desk", "Desk"): "__init__ 2 answer 2",
}


def arities(nodes):
    return {node.name: len(node.args.args) for node in nodes if isinstance(node, ast.FunctionDef)}


def told(text):
    words = text.split()
    return dict(zip(words[::2], map(int, words[1::2])))


class InterfaceTest(unittest.TestCase):
    def body(self, stem):
        return ast.parse((FOLDER / (stem + ".py")).read_text()).body

    def test_functions(self):
        for stem, text in NAMES.items():
            found = arities(self.body(stem))
            for name, many in told(text).items():
                self.assertEqual(found.get(name), many, (stem, name))

    def test_methods(self):
        for (stem, title), text in METHODS.items():
            found = arities([node for node in self.body(stem) if isinstance(node, ast.ClassDef) and node.name == title][0].body)
            for name, many in told(text).items():
                self.assertEqual(found.get(name), many, (stem, name))

    def test_all_modules_together(self):
        space = {}
        for stem in [*NAMES, "session", "desk", "errors"]:
            exec(f"import pointsum.{stem}", space)


if __name__ == "__main__":
    unittest.main()
