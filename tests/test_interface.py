"""The names and parameters of the interface, each defined in the file under which it stands."""

import ast
import unittest
from pathlib import Path

PACKAGE = Path(__file__).resolve().parent.parent / "roundpost"

FUNCTIONS = {
    "webs": {
        "is_web": ["thing"], "distance": ["web", "place", "other"], "way_of": ["web", "place", "other"],
        "pieces": ["web"], "is_tree": ["web"], "longest_way": ["web"], "ring_of": ["web"],
        "ring_holds": ["web", "thing"],
    },
    "texts": {"write_web": ["web", "week"], "read_web": ["text"]},
}


def defined(module):
    """The functions that a file defines at its module level, by name."""
    tree = ast.parse((PACKAGE / f"{module}.py").read_text())
    return {node.name: node for node in tree.body if isinstance(node, ast.FunctionDef)}


class Interface(unittest.TestCase):
    def test_functions_stand_in_their_files(self):
        for module, functions in FUNCTIONS.items():
            found = defined(module)
            for name, parameters in functions.items():
                with self.subTest(module=module, name=name):
                    self.assertIn(name, found)
                    rest = found[name].args
                    self.assertEqual([one.arg for one in rest.args], parameters)
                    self.assertFalse(rest.posonlyargs or rest.kwonlyargs or rest.defaults or rest.vararg or rest.kwarg)


if __name__ == "__main__":
    unittest.main()
