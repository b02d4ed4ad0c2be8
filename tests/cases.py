"""Right and wrong arguments of all functions, and the kinds of their results."""

from nudgewebs import every, fillings, forts, further, lines, pairings, seen, some, texts, ways, webs
from nudgewebs.errors import InvalidFilling, InvalidFort, InvalidGiven, InvalidHill, InvalidKind, InvalidLinks
from nudgewebs.errors import InvalidNudge, InvalidNumber, InvalidOrder, InvalidQuantity, InvalidSource, InvalidState
from nudgewebs.errors import InvalidTargets, InvalidText, InvalidWeb
from tests.kinds import LINES, NUMBER_LISTS, NUMBERS, WEBS, is_number, is_string, list_of, none_or, tuple_of
from tests.samples import BARE, CHAIN, FULL, KINDS, LONG, LOOP, ODD_VALUES, PAIR, SAMPLES, STAR, TWINS, filled
from tests.wrong import WRONG_FILLINGS, WRONG_FORTS, WRONG_GIVEN, WRONG_HILLS, WRONG_KINDS, WRONG_LINKS, WRONG_NUMBERS
from tests.wrong import WRONG_ORDERS, WRONG_QUANTITIES, WRONG_ROWS, WRONG_STATES, WRONG_TARGETS, WRONG_TEXTS, WRONG_WEBS

WEB = (InvalidWeb, WRONG_WEBS)
QUANTITY = (InvalidQuantity, WRONG_QUANTITIES)
KIND = (InvalidKind, WRONG_KINDS)
FORT = (InvalidFort, WRONG_FORTS)
FILLING = (InvalidFilling, WRONG_FILLINGS)
STATE = (InvalidState, WRONG_STATES)
GIVEN = (InvalidGiven, WRONG_GIVEN)
ROWS = (InvalidGiven, WRONG_ROWS)
HILL = (InvalidHill, WRONG_HILLS)
SHOWING = ([4, -4], [[7]])
# Values for the parameters that may be any value.
ANY = (None, [])

# For each function right arguments for a web of three quantities and a nudge, and for each
# parameter the error that it raises and wrong values.
CASES = [
    (webs.is_web, [STAR], [ANY]),
    (webs.targets_of, [STAR, 3], [WEB, (InvalidSource, ODD_VALUES + [4, 5, 28, "3", [3]])]),
    (webs.sources_of, [STAR, 2], [WEB, QUANTITY]),
    (webs.lines_of, [STAR], [WEB]),
    (webs.with_pair, [STAR, 1, 2], [WEB, QUANTITY, QUANTITY]),
    (webs.without_pair, [STAR, 0, 2], [WEB, QUANTITY, QUANTITY]),
    (webs.with_nudge, [STAR, [0, 2]], [WEB, (InvalidTargets, WRONG_TARGETS)]),
    (webs.without_nudge, [STAR, 0], [WEB, (InvalidNudge, ODD_VALUES + [1, 3, "0", [0]])]),
    (webs.turned, [STAR], [WEB]),
    (webs.renumbered, [STAR, [2, 0, 1]], [WEB, (InvalidOrder, WRONG_ORDERS)]),
    (webs.joined, [STAR, CHAIN, [(2, 0)]], [WEB, WEB, (InvalidLinks, WRONG_LINKS)]),
    (every.reaches_every, [STAR], [WEB]),
    (every.forcing_row, [STAR, "steady"], [WEB, KIND]),
    (every.is_forcing_row, [CHAIN, "still", [(3, 0), (0, 1), (1, 2)]], [WEB, KIND, ANY]),
    (every.rounds, [CHAIN, "steady"], [WEB, KIND]),
    (every.left_open, [STAR, "still"], [WEB, KIND]),
    (forts.is_fort, [STAR, "still", [1, 2]], [WEB, KIND, ANY]),
    (forts.least_forts, [STAR, "still"], [WEB, KIND]),
    (forts.fort_filling, [STAR, "still", [1, 2]], [WEB, KIND, FORT]),
    (forts.shows_fort, [STAR, "still", [1, 2], SHOWING], [WEB, KIND, FORT, FILLING]),
    (fillings.is_filling, [STAR, SHOWING], [WEB, ANY]),
    (fillings.step, [STAR, SHOWING, [1, 2, 3], [4]], [WEB, FILLING, STATE, GIVEN]),
    (fillings.run, [STAR, SHOWING, [1, 2, 3], [[4], [5]]], [WEB, FILLING, STATE, ROWS]),
    (fillings.reach_dimension, [STAR, SHOWING], [WEB, FILLING]),
    (fillings.reach_rows, [STAR, SHOWING], [WEB, FILLING]),
    (fillings.unmoved_rows, [STAR, SHOWING], [WEB, FILLING]),
    (fillings.is_reached, [STAR, SHOWING, [1, 1, -1]], [WEB, FILLING, STATE]),
    (fillings.pushes_to, [STAR, SHOWING, [1, 1, -1]], [WEB, FILLING, STATE]),
    (fillings.shows_pushes, [STAR, SHOWING, [7, 28, -28], (1, [[1], [1]])], [WEB, FILLING, STATE, ANY]),
    (ways.reached, [STAR], [WEB]),
    (ways.unreached, [STAR], [WEB]),
    (ways.way_to, [STAR, 2], [WEB, QUANTITY]),
    (ways.rooms, [STAR], [WEB]),
    (ways.first_rooms, [STAR], [WEB]),
    (pairings.greatest_pairing, [STAR], [WEB]),
    (pairings.pairing_size, [STAR], [WEB]),
    (pairings.is_pairing, [STAR, [(0, 2), (3, 0)]], [WEB, ANY]),
    (pairings.loose, [STAR], [WEB]),
    (pairings.is_gap, [STAR, [1, 2]], [WEB, ANY]),
    (some.reaches_some, [STAR], [WEB]),
    (some.most, [STAR], [WEB]),
    (some.best_filling, [STAR], [WEB]),
    (some.best_cover, [STAR], [WEB]),
    (some.best_hill, [STAR], [WEB]),
    (some.is_cover, [STAR, ([(0, [0, 2])], [])], [WEB, ANY]),
    (some.is_hill, [STAR, ([1, 0, 0], [2])], [WEB, ANY]),
    (some.bound_of, [STAR, ([1, 0, 0], [2])], [WEB, HILL]),
    (some.placed, [STAR], [WEB]),
    (further.fewest_wide, [STAR], [WEB]),
    (further.wide_nudges, [STAR], [WEB]),
    (further.fewest_single, [STAR], [WEB]),
    (further.single_nudges, [STAR], [WEB]),
    (further.fewest_sure, [STAR], [WEB]),
    (further.sure_nudges, [STAR], [WEB]),
    (lines.needed, [STAR], [WEB]),
    (lines.raising, [STAR], [WEB]),
    (lines.spoiling, [CHAIN], [WEB]),
    (lines.mending, [STAR], [WEB]),
    (lines.mending_pairs, [STAR], [WEB]),
    (seen.shown, [STAR, SHOWING, [1, 2, 3], 4], [WEB, FILLING, STATE, (InvalidNumber, WRONG_NUMBERS)]),
    (seen.hidden_dimension, [STAR, SHOWING], [WEB, FILLING]),
    (seen.hidden_rows, [STAR, SHOWING], [WEB, FILLING]),
    (seen.turned_filling, [STAR, SHOWING], [WEB, FILLING]),
    (seen.sees_some, [STAR], [WEB]),
    (seen.sees_every, [STAR], [WEB]),
    (texts.show_web, [STAR], [WEB]),
    (texts.read_web, ["3; 0>1 0>2; 0"], [(InvalidText, WRONG_TEXTS)]),
]

EVERY = list(range(20))
FULL_HALF = (10, [(a, b) for a in range(10) for b in range(10)], [list(range(10))] * 4)
GREATEST = filled(FULL, [10 ** 6 - at if at % 3 else at - 10 ** 6 for at in range(560)])
GREAT_STATE = [10 ** 30 - 1 - at for at in range(20)]
GREAT_GIVEN = [at - 10 ** 30 + 1 for at in range(8)]
GREAT_CASES = [
    (webs.targets_of, [FULL, 27]), (webs.sources_of, [FULL, 19]), (webs.lines_of, [FULL]),
    (webs.with_pair, [(20, FULL[1][:-1], FULL[2]), 19, 19]), (webs.without_pair, [FULL, 0, 0]),
    (webs.with_nudge, [(20, FULL[1], FULL[2][:7]), FULL[2][7]]), (webs.without_nudge, [FULL, 0]),
    (webs.turned, [FULL]), (webs.renumbered, [FULL, EVERY[::-1]]),
    (webs.joined, [FULL_HALF, FULL_HALF, FULL_HALF[1]]), (webs.joined, [STAR, STAR, []]),
    (webs.with_nudge, [TWINS, TWINS[2][0]]), (webs.is_web, [FULL]), (webs.is_web, [[[], [[]], []]]),
    (every.is_forcing_row, [STAR, "still", [[[3, 0]], [[0]], []]]),
    (every.is_forcing_row, [FULL, "steady", [(at, at) for at in EVERY]]),
    (forts.is_fort, [FULL, "still", EVERY]), (forts.is_fort, [STAR, "steady", [[1], [[2]]]]),
    (forts.shows_fort, [FULL, "steady", EVERY, GREATEST]), (forts.fort_filling, [STAR, "still", [1, 2]]),
    (fillings.is_filling, [FULL, GREATEST]), (fillings.is_filling, [STAR, [[4, -4], [[7]], []]]),
    (fillings.step, [FULL, GREATEST, GREAT_STATE, GREAT_GIVEN]),
    (fillings.run, [FULL, GREATEST, GREAT_STATE, [GREAT_GIVEN] * 60]),
    (fillings.run, [FULL, GREATEST, GREAT_STATE, []]),
    (fillings.shows_pushes, [FULL, GREATEST, GREAT_STATE, (10 ** 29, [GREAT_GIVEN] * 60)]),
    (fillings.shows_pushes, [STAR, SHOWING, [0, 0, 0], [[[4]], [[[]]]]]),
    (fillings.pushes_to, [STAR, SHOWING, [0, 1, 0]]), (fillings.pushes_to, [BARE, ([], []), [0] * 20]),
    (fillings.pushes_to, [LONG, ([2] * 19, [[3]]), EVERY]), (fillings.unmoved_rows, [BARE, ([], [])]),
    *[(called, [FULL, GREATEST]) for called in [fillings.reach_rows, fillings.unmoved_rows, fillings.reach_dimension]],
    *[(called, [FULL, GREATEST, GREAT_STATE]) for called in [fillings.is_reached, fillings.pushes_to]],
    *[(called, [web]) for called in [every.reaches_every, ways.reached, ways.unreached, ways.rooms, ways.first_rooms,
                                     pairings.greatest_pairing, pairings.pairing_size, pairings.loose]
      for web in SAMPLES],
    *[(called, [web, kind]) for called in [every.forcing_row, every.rounds, every.left_open]
      for web in SAMPLES for kind in KINDS],
    *[(forts.least_forts, [web, kind]) for web in [STAR, PAIR, TWINS, FULL_HALF] for kind in KINDS],
    *[(forts.fort_filling, [FULL, kind, fort]) for kind in KINDS for fort in [[3, 17], EVERY]],
    *[(ways.way_to, [web, web[0] - 1]) for web in SAMPLES],
    *[(pairings.is_pairing, [FULL, value]) for value in [[(at, at) for at in EVERY], [[[0, 1]], [[]]]]],
    *[(pairings.is_gap, [FULL, value]) for value in [EVERY, [[0], [[1]]]]],
    *[(called, [web]) for called in [some.reaches_some, some.most, some.best_filling, some.best_cover, some.best_hill,
                                     some.placed, further.fewest_wide, further.wide_nudges, further.fewest_single,
                                     further.single_nudges, lines.needed, lines.raising, lines.spoiling, lines.mending,
                                     lines.mending_pairs]
      for web in SAMPLES],
    *[(called, [web]) for called in [further.fewest_sure, further.sure_nudges]
      for web in [STAR, CHAIN, PAIR, LOOP, TWINS, FULL_HALF]],
    (some.is_cover, [FULL, ([(at, [at, 19 - at]) for at in range(8)], [[8, 9, 10], [11]])]),
    (some.is_cover, [STAR, ([(0, [[0]]), [[0, [0]]]], [[[0]], []])]), (some.is_cover, [STAR, []]),
    (some.is_hill, [STAR, ([[1, 0, 0]], [[2], []])]), (some.is_hill, [FULL, (EVERY, [1000] * 8)]),
    (some.bound_of, [FULL, (EVERY, [1000] * 8)]), (some.bound_of, [BARE, (EVERY, [])]),
    *[(called, [web]) for called in [seen.sees_some, seen.sees_every, texts.show_web] for web in SAMPLES],
    *[(called, [web, filling]) for called in [seen.hidden_rows, seen.hidden_dimension, seen.turned_filling]
      for web, filling in [(FULL, GREATEST), (LONG, ([2] * 19, [[3]])), (BARE, ([], [])), (TWINS, ([1] * 4, [[2, 3]] * 2))]],
    *[(seen.shown, [FULL, GREATEST, GREAT_STATE, number]) for number in [0, 1, 60]],
    (seen.shown, [BARE, ([], []), GREAT_STATE, 60]), (texts.read_web, ["1; -; -"]),
    (texts.read_web, ["20; " + " ".join(f"{a}>{b}" for a, b in FULL[1]) + "; 0,19 0,19 0 0 0 0 0 0"]),
]

# The kinds of the results. Those of all other functions are bools.
RESULTS = {
    webs.targets_of: NUMBERS, webs.sources_of: NUMBERS, webs.lines_of: LINES, webs.with_pair: WEBS,
    webs.without_pair: WEBS, webs.with_nudge: WEBS, webs.without_nudge: WEBS, webs.turned: WEBS, webs.renumbered: WEBS,
    webs.joined: WEBS, every.forcing_row: none_or(LINES), every.rounds: NUMBER_LISTS, every.left_open: NUMBERS,
    forts.least_forts: NUMBER_LISTS, forts.fort_filling: tuple_of(NUMBERS, NUMBER_LISTS), fillings.step: NUMBERS,
    fillings.run: NUMBER_LISTS, fillings.reach_dimension: is_number, fillings.reach_rows: NUMBER_LISTS,
    fillings.unmoved_rows: NUMBER_LISTS, fillings.pushes_to: none_or(tuple_of(is_number, NUMBER_LISTS)),
    ways.reached: NUMBERS, ways.unreached: NUMBERS, ways.way_to: none_or(tuple_of(is_number, NUMBERS)),
    ways.rooms: NUMBER_LISTS, ways.first_rooms: NUMBER_LISTS, pairings.greatest_pairing: LINES,
    pairings.pairing_size: is_number, pairings.loose: NUMBERS, some.most: is_number,
    some.best_filling: tuple_of(NUMBERS, NUMBER_LISTS), some.best_hill: tuple_of(NUMBERS, NUMBERS),
    some.best_cover: tuple_of(list_of(tuple_of(is_number, NUMBERS)), NUMBER_LISTS), some.bound_of: is_number,
    some.placed: list_of(is_string), further.fewest_wide: is_number, further.wide_nudges: NUMBER_LISTS,
    further.fewest_single: is_number, further.single_nudges: NUMBERS, further.fewest_sure: is_number,
    further.sure_nudges: NUMBER_LISTS, lines.needed: LINES, lines.raising: LINES, lines.spoiling: LINES,
    lines.mending: LINES, lines.mending_pairs: LINES, seen.shown: NUMBER_LISTS, seen.hidden_dimension: is_number,
    seen.hidden_rows: NUMBER_LISTS, seen.turned_filling: tuple_of(NUMBERS, NUMBER_LISTS), texts.show_web: is_string,
    texts.read_web: WEBS,
}
