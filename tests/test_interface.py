import importlib
import inspect
import unittest

FUNCTIONS = {
    "trees": ["is_node(thing)", "behind_put(path, at)", "behind_take(path, at)"],
    "reading": ["read_tree(text)", "slips_of(text)", "write_tree(tree)"],
    "selectors": ["is_selector(thing)", "is_matched(tree, path, selector)", "matched_paths(tree, selector)",
                  "weight_of(selector)", "given_paths(tree, path, selector)", "is_given(tree, path, selector, thing)"],
    "spines": ["spine_of(tree, path)", "is_spine(thing)", "tree_along(spine)", "path_along(spine)",
               "is_spine_matched(spine, selector)"],
    "nests": ["is_nest(thing)", "is_of_nest(tree, nest)"],
    "alltrees": ["least_spine(has, lacks, nest=None)", "is_never(selector, nest=None)", "is_within(one, other, nest=None)",
                 "spine_apart(one, other, nest=None)"],
    "papers": ["closed_list(has, lacks, nest=None)", "is_closed(has, lacks, nest, thing)"],
    "lots": ["lots_of(selectors, nest=None)"],
    "lessened": ["parts_of(selector)", "without_part(selector, part)", "idle_parts(selector, nest=None)",
                 "lessened_selector(selector, nest=None)"],
    "winners": ["asked_rules(sheet, tree, path, word, width)", "winner_of(sheet, tree, path, word, width)"],
    "worths": ["own_worth(sheet, tree, path, word, width)", "ringed_names(sheet, tree, path, width)",
               "worth_of(sheet, tree, path, word, width)", "all_worths(sheet, tree, width)"],
    "stands": ["stand_of(spine, selector)", "stand_behind(selector, held, letter)"],
}
CLASSES = {
    ("trees", "Tree"): ["__init__(root)", "root_node()", "node_at(path)", "all_paths()", "all_elements()", "elder_of(path)",
                        "with_node(path, node)", "without_node(path)", "with_text(path, text)", "with_class(path, klass)",
                        "without_class(path, klass)", "joined_texts()", "__eq__(other)", "__len__()"],
    ("sheets", "Sheet"): ["__init__(rules)", "all_rules()", "with_rule(rule, number)", "without_rule(number)",
                          "__eq__(other)", "__len__()"],
}


class InterfaceTest(unittest.TestCase):
    def test_functions(self):
        for file, rows in FUNCTIONS.items():
            module = importlib.import_module("pagefall." + file)
            for row in rows:
                name = row.partition("(")[0]
                function = getattr(module, name)
                self.assertEqual(function.__module__, module.__name__)
                self.assertEqual(name + str(inspect.signature(function)), row)

    def test_classes(self):
        for (file, owner), rows in CLASSES.items():
            module = importlib.import_module("pagefall." + file)
            made = getattr(module, owner)
            self.assertEqual(made.__module__, module.__name__)
            for row in rows:
                name, _, parameters = row.partition("(")
                told = str(inspect.signature(vars(made)[name]))
                self.assertEqual(told.replace("(self, ", "(").replace("(self)", "()"), "(" + parameters)


if __name__ == "__main__":
    unittest.main()
