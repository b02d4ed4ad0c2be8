"""The examples and the interface of the document, as they stand there."""

import doctest
import inspect
import unittest
from pathlib import Path

from nudgewebs import every, webs
from nudgewebs.every import forcing_row, left_open, reaches_every, rounds
from nudgewebs.webs import joined, renumbered, targets_of, turned

INTERFACE = {
    webs: {
        "is_web": ["value"], "targets_of": ["web", "source"], "sources_of": ["web", "quantity"], "lines_of": ["web"],
        "with_pair": ["web", "quantity", "target"], "without_pair": ["web", "quantity", "target"],
        "with_nudge": ["web", "targets"], "without_nudge": ["web", "nudge"], "turned": ["web"],
        "renumbered": ["web", "order"], "joined": ["web", "second", "links"],
    },
    every: {
        "reaches_every": ["web"], "forcing_row": ["web", "kind"], "is_forcing_row": ["web", "kind", "value"],
        "rounds": ["web", "kind"], "left_open": ["web", "kind"],
    },
}
star, chain = (3, [(0, 1), (0, 2)], [[0]]), (3, [(0, 1), (1, 2)], [[0]])


class Examples(unittest.TestCase):
    def test_webs(self):
        self.assertEqual([targets_of(star, 0), targets_of(star, 3), turned(star)],
                         [[1, 2], [0], (3, [(1, 0), (2, 0)], [[0]])])
        self.assertEqual([renumbered(chain, [1, 2, 0]), joined((1, [], [[0]]), (1, [(0, 0)], []), [(0, 0)])],
                         [(3, [(0, 1), (2, 0)], [[2]]), (2, [(0, 1), (1, 1)], [[0]])])

    def test_every(self):
        self.assertEqual([reaches_every(chain), reaches_every(star), forcing_row(star, "still"),
                          left_open(star, "still")], [True, False, None, [1, 2]])
        self.assertEqual([forcing_row((1, [(0, 0)], [[0]]), "steady"), forcing_row((1, [(0, 0)], []), "still"),
                          left_open((1, [(0, 0)], []), "steady")], [[(1, 0)], [(0, 0)], [0]])
        self.assertEqual([forcing_row(chain, "still"), forcing_row(star, "steady"), rounds(star, "steady")],
                         [[(3, 0), (0, 1), (1, 2)], [(3, 0), (1, 1), (0, 2)], [[0, 1, 2]]])


    def test_readme(self):
        # The marks around the examples would be taken for what the last one prints.
        text = (Path(__file__).resolve().parent.parent / "README.md").read_text("utf-8").replace("```", "")
        examples = doctest.DocTestParser().get_doctest(text, {}, "README.md", "README.md", 0)
        found = doctest.DocTestRunner().run(examples)
        self.assertEqual((found.failed, found.attempted), (0, 7))


class Interface(unittest.TestCase):
    def test_each_function_is_defined_where_it_is_listed_with_its_parameters(self):
        for module, functions in INTERFACE.items():
            for name, parameters in functions.items():
                function = vars(module)[name]
                self.assertEqual(function.__module__, module.__name__)
                self.assertEqual(inspect.getfullargspec(function)[:4], (parameters, None, None, None), name)


if __name__ == "__main__":
    unittest.main()
