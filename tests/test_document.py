"""The examples and the interface of the document, as they stand there."""

import doctest
import inspect
import unittest
from pathlib import Path

from nudgewebs import every, fillings, forts, further, lines, pairings, seen, texts, ways, webs
from nudgewebs import some as some_fillings
from nudgewebs.console import Console
from nudgewebs.every import forcing_row, left_open, reaches_every, rounds
from nudgewebs.fillings import is_reached, reach_dimension, reach_rows, run, step, unmoved_rows
from nudgewebs.forts import least_forts, shows_fort
from nudgewebs.further import fewest_single, fewest_sure, fewest_wide, sure_nudges
from nudgewebs.lines import needed, raising, spoiling
from nudgewebs.live import LiveWeb
from nudgewebs.pairings import is_gap, loose, pairing_size
from nudgewebs.seen import hidden_rows, sees_every, sees_some, shown, turned_filling
from nudgewebs.some import bound_of, is_cover, most, placed, reaches_some
from nudgewebs.texts import read_web, show_web
from nudgewebs.ways import first_rooms, rooms, unreached, way_to
from nudgewebs.webs import joined, renumbered, targets_of, turned

INTERFACE = {
    webs: {
        "is_web": ["value"], "targets_of": ["web", "source"], "sources_of": ["web", "quantity"], "lines_of": ["web"],
        "with_pair": ["web", "quantity", "target"], "without_pair": ["web", "quantity", "target"],
        "with_nudge": ["web", "targets"], "without_nudge": ["web", "nudge"], "turned": ["web"],
        "renumbered": ["web", "order"], "joined": ["web", "second", "links"],
    },
    every: {
        "reaches_every": ["web"], "forcing_row": ["web", "kind"], "is_forcing_row": ["web", "kind", "value"],
        "rounds": ["web", "kind"], "left_open": ["web", "kind"],
    },
    forts: {
        "is_fort": ["web", "kind", "value"], "least_forts": ["web", "kind"], "fort_filling": ["web", "kind", "fort"],
        "shows_fort": ["web", "kind", "fort", "filling"],
    },
    fillings: {
        "is_filling": ["web", "value"], "step": ["web", "filling", "state", "given"],
        "run": ["web", "filling", "state", "rows"], "reach_dimension": ["web", "filling"],
        "reach_rows": ["web", "filling"], "unmoved_rows": ["web", "filling"], "is_reached": ["web", "filling", "state"],
        "pushes_to": ["web", "filling", "state"], "shows_pushes": ["web", "filling", "state", "value"],
    },
    ways: {
        "reached": ["web"], "unreached": ["web"], "way_to": ["web", "quantity"], "rooms": ["web"],
        "first_rooms": ["web"],
    },
    pairings: {
        "greatest_pairing": ["web"], "pairing_size": ["web"], "is_pairing": ["web", "value"], "loose": ["web"],
        "is_gap": ["web", "value"],
    },
    some_fillings: {
        "reaches_some": ["web"], "most": ["web"], "best_filling": ["web"], "best_cover": ["web"], "best_hill": ["web"],
        "is_cover": ["web", "value"], "is_hill": ["web", "value"], "bound_of": ["web", "hill"], "placed": ["web"],
    },
    further: {
        "fewest_wide": ["web"], "wide_nudges": ["web"], "fewest_single": ["web"], "single_nudges": ["web"],
        "fewest_sure": ["web"], "sure_nudges": ["web"],
    },
    lines: {
        "needed": ["web"], "raising": ["web"], "spoiling": ["web"], "mending": ["web"], "mending_pairs": ["web"],
    },
    seen: {
        "shown": ["web", "filling", "state", "number"], "hidden_dimension": ["web", "filling"],
        "hidden_rows": ["web", "filling"], "turned_filling": ["web", "filling"], "sees_some": ["web"],
        "sees_every": ["web"],
    },
    texts: {"show_web": ["web"], "read_web": ["text"]},
}
METHODS = {
    LiveWeb: {
        "__init__": ["self", "web"], "link": ["self", "quantity", "target"], "cut": ["self", "quantity", "target"],
        "attach": ["self", "targets"], "detach": ["self", "nudge"], "undo": ["self"], "undo_to": ["self", "number"],
        "tried": ["self"], "twin": ["self"], "__len__": ["self"], "__eq__": ["self", "other"],
    },
    Console: {"__init__": ["self"], "execute": ["self", "command"]},
}
star, chain = (3, [(0, 1), (0, 2)], [[0]]), (3, [(0, 1), (1, 2)], [[0]])
pair = (3, [(0, 1), (1, 0), (1, 2)], [])
some = ([1, -1], [[1]])


class Examples(unittest.TestCase):
    def test_webs(self):
        self.assertEqual([targets_of(star, 0), targets_of(star, 3), turned(star)],
                         [[1, 2], [0], (3, [(1, 0), (2, 0)], [[0]])])
        self.assertEqual([renumbered(chain, [1, 2, 0]), joined((1, [], [[0]]), (1, [(0, 0)], []), [(0, 0)])],
                         [(3, [(0, 1), (2, 0)], [[2]]), (2, [(0, 1), (1, 1)], [[0]])])

    def test_every(self):
        self.assertEqual([reaches_every(chain), reaches_every(star), forcing_row(star, "still"),
                          left_open(star, "still")], [True, False, None, [1, 2]])
        self.assertEqual([forcing_row((1, [(0, 0)], [[0]]), "steady"), forcing_row((1, [(0, 0)], []), "still"),
                          left_open((1, [(0, 0)], []), "steady")], [[(1, 0)], [(0, 0)], [0]])
        self.assertEqual([forcing_row(chain, "still"), forcing_row(star, "steady"), rounds(star, "steady")],
                         [[(3, 0), (0, 1), (1, 2)], [(3, 0), (1, 1), (0, 2)], [[0, 1, 2]]])

    def test_forts(self):
        self.assertEqual([least_forts(star, "still"), least_forts(star, "steady"),
                          shows_fort(star, "still", [1, 2], ([4, -4], [[7]]))], [[[1, 2]], [], True])

    def test_fillings(self):
        self.assertEqual([step(star, some, [5, 0, 0], [2]), run(star, some, [0, 0, 0], [[3], [0]])],
                         [[2, 5, -5], [[0, 0, 0], [3, 0, 0], [0, 3, -3]]])
        self.assertEqual([reach_dimension(star, some), reach_rows(star, ([2, 3], [[1]])),
                          is_reached(star, some, [0, 1, 1])], [2, [[1, 0, 0], [0, 2, 3]], False])
        self.assertEqual(unmoved_rows(star, some), [[0, 1, 1]])

    def test_ways(self):
        self.assertEqual([rooms(pair), first_rooms(pair), unreached(pair), way_to(chain, 2)],
                         [[[0, 1], [2]], [[0, 1]], [0, 1, 2], (0, [0, 1, 2])])

    def test_pairings(self):
        self.assertEqual([pairing_size(star), loose(star), loose(chain), is_gap(star, [1, 2]), is_gap(star, [0, 1, 2]),
                          is_gap(star, [1])], [2, [1, 2], [], True, True, False])

    def test_some(self):
        self.assertEqual([most(star), most(chain), most(pair), reaches_some(chain), bound_of(star, ([1, 0, 0], [2])),
                          bound_of(star, ([0, 0, 0], [0]))], [2, 3, 0, True, 2, 3])
        self.assertEqual([is_cover(star, ([(0, [0, 2])], [])), is_cover(pair, ([], [[0, 1]])), placed(star)],
                         [True, False, ["always", "sometimes", "sometimes"]])

    def test_further(self):
        self.assertEqual([fewest_wide(star), fewest_single(star), fewest_sure(star), sure_nudges(star),
                          sure_nudges(chain)], [1, 1, 1, [[1], [2]], [[]]])
        two = (4, [(0, 1), (2, 3)], [])
        self.assertEqual([fewest_wide(two), fewest_single(two), fewest_wide(pair), fewest_single(pair)], [2, 2, 1, 1])

    def test_lines(self):
        self.assertEqual([needed(chain), needed(star), raising(star), spoiling(chain)],
                         [[(0, 1), (1, 2), (3, 0)], [(3, 0)], [(1, 1), (1, 2), (2, 1), (2, 2)], []])

    def test_seen(self):
        self.assertEqual([hidden_rows(star, some), sees_some(star), sees_every(turned(chain)),
                          turned_filling(pair, ([5, 6, 7], []))], [[[0, 1, 0], [0, 0, 1]], False, True, ([6, 5, 7], [])])
        self.assertEqual(shown(turned(chain), ([2, 3], [[1]]), [1, 10, 100], 3), [[1], [20], [600]])

    def test_texts(self):
        self.assertEqual([show_web(star), show_web((1, [], [])), read_web("2; 0>1 1>1; 0,1 1")],
                         ["3; 0>1 0>2; 0", "1; -; -", (2, [(0, 1), (1, 1)], [[0, 1], [1]])])

    def test_live(self):
        live = LiveWeb(star)
        self.assertEqual([live.is_sure, live.link(1, 2), live.is_sure, live.cut(0, 2), live.undo(),
                          live.tried(("attach", [2]), ("cut", 1, 2)), live.log],
                         [False, 3, True, 3, 3, [3, 3], [("link", 1, 2)]])

    def test_console(self):
        console = Console()
        self.assertEqual([console.execute(one) for one in ["web 3; 0>1 0>2; 0", "most", "forts still", "row steady", "sure",
                                                           "link 1 2", "sure", "cut 0 2", "row still"]],
                         ["ok", "2", "1 2", "3>0 1>1 0>2", "no", "3", "yes", "3", "3>0 0>1 1>2"])

    def test_readme(self):
        # The marks around the examples would be taken for what the last one prints.
        text = (Path(__file__).resolve().parent.parent / "README.md").read_text("utf-8").replace("```", "")
        examples = doctest.DocTestParser().get_doctest(text, {}, "README.md", "README.md", 0)
        found = doctest.DocTestRunner().run(examples)
        self.assertEqual((found.failed, found.attempted), (0, 35))


class Interface(unittest.TestCase):
    def test_each_function_is_defined_where_it_is_listed_with_its_parameters(self):
        for module, functions in INTERFACE.items():
            for name, parameters in functions.items():
                function = vars(module)[name]
                self.assertEqual(function.__module__, module.__name__)
                self.assertEqual(inspect.getfullargspec(function)[:4], (parameters, None, None, None), name)

    def test_each_method_is_defined_in_its_class(self):
        for one, methods in METHODS.items():
            self.assertEqual(one.__module__, f"nudgewebs.{'live' if one is LiveWeb else 'console'}")
            for name, parameters in methods.items():
                star_name = "changes" if name == "tried" else None
                found = inspect.getfullargspec(vars(one)[name])
                self.assertEqual(found[:4], (parameters, star_name, None, None), name)

    def test_each_property_is_defined_in_its_class(self):
        for name in ["web", "most", "is_sure", "log"]:
            self.assertIn(name, vars(LiveWeb))
            self.assertTrue(hasattr(LiveWeb(star), name))


if __name__ == "__main__":
    unittest.main()
