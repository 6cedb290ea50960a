"""What is told is the asker's own, and what is handed in stays as it was and isn't kept."""

import copy
import unittest

from fewsaves.building import built, built_all
from fewsaves.cuts import cheapest, cheapest_plan, least_cost, widest
from fewsaves.desk import run_desk
from fewsaves.flowcheck import shows_cheapest, shows_none
from fewsaves.flows import flow_paper, why_none
from fewsaves.lives import asks, awaited, busy, reached
from fewsaves.measuring import measured
from fewsaves.plans import cost, home_of, is_plan, plain_plan, put_on, splits, tight_plan
from fewsaves.runs import meant, moves_done, run
from fewsaves.texts import read_works, works_text
from fewsaves.works import are_works, boxes_in, is_plain, is_work, rounds_in, ways_of
from samples import OUT


def sample():
    """All that is handed in: works, and what is asked of them."""
    works = [
        [
            ([("set", 0, 5), ("set", 1, 2)], ("go", 1)),
            ([("add", 2, 0), ("call", 1)], ("fork", 1, 2)),
            ([("tell", 1), ("tell", 0)], OUT),
        ],
        [([("tell", 3), ("call", 2)], ("fork", 2, 1)), ([("tell", 4)], ("go", 2)), ([("set", 4, 1)], OUT)],
        [([], OUT)],
    ]
    return {
        "works": works,
        "laid": [[([("save", 0), ("set", 0, 4), ("back", 0), ("back", 0), ("set", 1, 9)], OUT)]],
        "boxes": [10, 11, 12, 13, 14, 15, 16, 17],
        "choices": [0, 0, 3, 1],
        "plans": [{0: [0, 1, 2], 1: [0, 1, 2], 2: [1]}, {4: [1, 2]}, {}],
        "loose": {4: [1]},
        "counts": [1, 2, 3, 4, 5],
        "shut": [(-1, 0)],
        "round": [(1, 1)],
        "tied": [(0, 1), (-1, 0)],
        "inside": [1, 2],
        "flows": [-10, -4, -6, -4, 15],
        "row": [1, 0],
    }


def run_of(tells, works="works"):
    """The question that tells of a run."""
    return lambda given: tells(given[works], 0, given["boxes"], given["choices"], 100)


def box_of(tells):
    """The question that tells of a box of work 1."""
    return lambda given: tells(given["works"], 1, 4, given["counts"], (2, 3), given["shut"])


# Each question, asked of what is handed in.
QUESTIONS = {
    "are_works": lambda given: are_works(given["works"]),
    "is_work": lambda given: is_work(given["works"][0], 3),
    "is_plain": lambda given: is_plain(given["works"][0]),
    "ways_of": lambda given: ways_of(given["works"][0]),
    "boxes_in": lambda given: boxes_in(given["works"][0]),
    "rounds_in": lambda given: rounds_in(given["works"][0]),
    "asks": lambda given: asks(given["works"]),
    "reached": lambda given: reached(given["works"], 0, 0),
    "awaited": lambda given: awaited(given["works"], 0, 0),
    "busy": lambda given: busy(given["works"], 0, 0),
    "meant": run_of(meant),
    "run": run_of(run),
    "run laid": run_of(run, "laid"),
    "moves_done": run_of(moves_done, "laid"),
    "measured": run_of(measured),
    "is_plan": lambda given: is_plan(given["works"], 0, given["plans"][0]),
    "is_plan loose": lambda given: is_plan(given["works"], 1, given["loose"]),
    "plain_plan": lambda given: plain_plan(given["works"][0]),
    "tight_plan": lambda given: tight_plan(given["works"], 0),
    "put_on": lambda given: put_on(given["works"][0], given["plans"][0]),
    "cost": lambda given: cost(given["works"][0], given["plans"][0], given["counts"], (2, 3)),
    "home_of": lambda given: home_of(given["works"][0], (1, 2)),
    "splits": lambda given: splits(given["works"][1], given["plans"][1]),
    "built": lambda given: built(given["works"][1], given["plans"][1]),
    "built_all": lambda given: built_all(given["works"], given["plans"]),
    "cheapest": box_of(cheapest),
    "widest": box_of(widest),
    "least_cost": box_of(least_cost),
    "cheapest_plan": lambda given: cheapest_plan(given["works"], 0, given["counts"], (2, 3), given["round"]),
    # Asked where one paper alone is right, and one row alone has the fewest blocks.
    "flow_paper": box_of(flow_paper),
    "why_none": lambda given: why_none(given["works"], 0, 2, given["tied"]),
    "shows_cheapest": lambda given: shows_cheapest(
        given["works"], 1, 4, given["counts"], (2, 3), given["shut"], given["inside"], given["flows"]),
    "shows_none": lambda given: shows_none(given["works"], 0, 2, given["tied"], given["row"]),
    "works_text": lambda given: works_text(given["works"][1:]),
    "read_works": lambda given: read_works(works_text(given["works"])),
    "run_desk": lambda given: run_desk(works_text(given["works"]) + "\n\nplan 0\nshut 0 0 1\nput 0\nbusy 0 0"),
}

LAID = [
    [
        ([("save", 0), ("save", 1), ("set", 0, 5), ("set", 1, 2), ("save", 2)], ("go", 1)),
        ([("add", 2, 0), ("call", 1)], ("fork", 1, 2)),
        ([("back", 2), ("tell", 1), ("tell", 0), ("back", 0), ("back", 1)], OUT),
    ],
    [
        ([("tell", 3), ("call", 2)], ("fork", 3, 1)), ([("save", 4), ("tell", 4)], ("go", 2)),
        ([("set", 4, 1), ("back", 4)], OUT), ([("save", 4)], ("go", 2)),
    ],
    [([], OUT)],
]

ANSWERS = {
    "are_works": True,
    "is_work": True,
    "is_plain": True,
    "ways_of": [(-1, 0), (0, 1), (1, 1), (1, 2), (2, 3)],
    "boxes_in": [0, 1, 2],
    "rounds_in": [(1, 1)],
    "asks": [[2, 3, 4], [3, 4], []],
    "reached": [1, 2],
    "awaited": [1, 2],
    "busy": [0, 1, 2],
    "meant": ("ended", [13, 13, 14, 2, 5]),
    "run": (
        "ended", [13, 13, 1, 2, 5], [(1, 4), (0, 0), (0, 1), (0, 2), (0, 4)], [5, 2, 22, 13, 1, 15, 16, 17],
    ),
    "run laid": ("ended", [], [(0, 1)], [10, 9, 12, 13, 14, 15, 16, 17]),
    "moves_done": (1, 2),
    "measured": [[1, 1, 1, 1, 1], [2, 1, 1, 1, 2], [2, 2]],
    "is_plan": True,
    "is_plan loose": False,
    "plain_plan": {0: [0, 1, 2], 1: [0, 1, 2], 2: [0, 1, 2]},
    "tight_plan": {0: [0, 1, 2], 1: [0, 1, 2], 2: [1]},
    "put_on": [
        ((-1, 0), "save", 0), ((-1, 0), "save", 1), ((0, 1), "save", 2), ((1, 2), "back", 2), ((2, 3), "back", 0),
        ((2, 3), "back", 1),
    ],
    "cost": 2 * (1 + 1 + 2) + 3 * (4 + 5 + 5),
    "home_of": "begin",
    "splits": [(0, 2)],
    "built": LAID[1],
    "built_all": LAID,
    "cheapest": [1, 2],
    "widest": [1, 2],
    "least_cost": 2 * (2 + 3) + 3 * 5,
    "cheapest_plan": {0: [0, 1, 2], 1: [0, 1, 2], 2: [0, 1]},
    "flow_paper": [-10, -4, -6, -4, 15],
    "why_none": [1, 0],
    "shows_cheapest": True,
    "shows_none": True,
    "works_text": (
        "work\nblock\ntell 3\ncall 2\nfork 2 1\nblock\ntell 4\ngo 2\nblock\nset 4 1\nout\nwork\nblock\nout"
    ),
    "read_works": sample()["works"],
    "run_desk": [
        "0:2:0,1,2 1:2:0,1,2 2:2:1", "done",
        "door,0:save:0 door,0:save:1 door,0:save:2 1,2:back:2 2,out:back:0 2,out:back:1", "0 1 2",
    ],
}

LAID_LATER = [
    [
        ([("save", 1), ("tell", 5), ("set", 1, 2), ("save", 2)], ("go", 1)),
        ([("add", 2, 0), ("call", 1), ("back", 2)], ("go", 2)),
        ([("tell", 1), ("tell", 0), ("back", 1), ("save", 6)], ("go", 3)),
        ([("set", 6, 1), ("back", 6)], OUT),
    ],
    [
        ([("save", 4), ("tell", 3), ("call", 2)], ("fork", 2, 1)), ([("tell", 4)], ("go", 2)),
        ([("set", 4, 1), ("back", 4)], OUT),
    ],
    [([], OUT)],
]

# The same, once the owner has changed what was handed in as change does.
ANSWERS_LATER = {
    "are_works": True,
    "is_work": True,
    "is_plain": True,
    "ways_of": [(-1, 0), (0, 1), (1, 2), (2, 3), (3, 4)],
    "boxes_in": [1, 2, 6],
    "rounds_in": [],
    "asks": [[0, 2, 3, 4, 5], [3, 4], []],
    "reached": [],
    "awaited": [0, 1, 2],
    "busy": [],
    "meant": ("ended", [15, 13, 14, 2, 20]),
    "run": (
        "ended", [15, 13, 14, 2, 20], [(1, 4), (0, 1), (0, 2), (0, 4), (0, 6)], [20, 2, 32, 13, 1, 15, 1, 17],
    ),
    "run laid": ("ended", [], [(0, 1)], [20, 9, 12, 13, 14, 15, 16, 17]),
    "moves_done": (2, 2),
    "measured": [[1, 1, 1, 1, 1], [1, 1, 0, 1, 1], [1, 1]],
    "is_plan": True,
    "is_plan loose": True,
    "plain_plan": {1: [0, 1, 2, 3], 2: [0, 1, 2, 3], 6: [0, 1, 2, 3]},
    "tight_plan": {1: [0, 1, 2], 2: [1], 6: [3]},
    "put_on": [
        ((-1, 0), "save", 1), ((0, 1), "save", 2), ((1, 2), "back", 2), ((2, 3), "back", 1), ((2, 3), "save", 6),
        ((3, 4), "back", 6),
    ],
    "cost": 2 * (100 + 2 + 4) + 3 * (3 + 4 + 5),
    "home_of": "end",
    "splits": [],
    "built": LAID_LATER[1],
    "built_all": LAID_LATER,
    "cheapest": [2],
    "widest": [2],
    "least_cost": 2 * (3 + 4) + 3 * 5,
    "cheapest_plan": {1: [0, 1, 2], 2: [0, 1], 6: [2, 3]},
    "flow_paper": [-14, -8, -6, -8, 15],
    "why_none": [1, 2, 3],
    "shows_cheapest": False,
    "shows_none": False,
    "works_text": (
        "work\nblock\ntell 3\ncall 2\nfork 2 1\nblock\ntell 4\ngo 2\nblock\nset 4 1\nout\nwork\nblock\nout"
    ),
    "read_works": [
        [
            ([("tell", 5), ("set", 1, 2)], ("go", 1)), ([("add", 2, 0), ("call", 1)], ("go", 2)),
            ([("tell", 1), ("tell", 0)], ("go", 3)), ([("set", 6, 1)], OUT),
        ],
        sample()["works"][1],
        sample()["works"][2],
    ],
    "run_desk": [
        "1:2:0,1,2 2:2:1 6:2:3", "done",
        "door,0:save:1 door,0:save:2 1,2:back:2 2,3:back:1 2,3:save:6 3,out:back:6", "-",
    ],
}


def change(given):
    works = given["works"]
    works[0][0][0][0] = ("tell", 5)
    works[0][1] = (works[0][1][0], ("go", 2))
    works[0][2] = (works[0][2][0], ("go", 3))
    works[0].append(([("set", 6, 1)], OUT))
    given["laid"][0][0][0].insert(0, ("save", 1))
    given["boxes"][0] = 20
    given["choices"].insert(0, 3)
    del given["plans"][0][0]
    given["plans"][0][6] = [3]
    given["plans"][1][4].insert(0, 0)
    given["loose"][4].append(2)
    given["counts"][0] = 100
    given["shut"][0] = (0, 1)
    given["round"][0] = (0, 1)
    given["tied"][:] = [(3, 4), (2, 3), (1, 2)]
    given["flows"][0] = -14
    given["row"].append(1)


def lists_in(thing):
    """All lists and dicts in a thing, itself too."""
    found = [thing] if isinstance(thing, (list, dict)) else []
    if isinstance(thing, (list, tuple, dict)):
        for part in thing.values() if isinstance(thing, dict) else thing:
            found.extend(lists_in(part))
    return found


def ruin(thing):
    for part in lists_in(thing):
        if isinstance(part, list):
            part.insert(0, "ruined")
            part.append(None)
        else:
            part["ruined"] = None


class OwnAnswers(unittest.TestCase):
    def test_answers(self):
        for name, question in QUESTIONS.items():
            told = question(sample())
            # How they are written tells lists from tuples and True from 1, too.
            self.assertEqual(repr(told), repr(ANSWERS[name]), name)

    def test_what_is_handed_in_stays_as_it_was(self):
        given = sample()
        for name, question in QUESTIONS.items():
            question(given)
            self.assertEqual(repr(given), repr(sample()), name)

    def test_what_is_handed_in_stays_the_very_same_things(self):
        given = sample()
        ahead = [id(part) for part in lists_in(given)]
        for name, question in QUESTIONS.items():
            question(given)
            self.assertEqual([id(part) for part in lists_in(given)], ahead, name)

    def test_the_same_question_is_told_the_same(self):
        given = sample()
        for name in list(QUESTIONS) + list(QUESTIONS)[::-1]:
            self.assertEqual(QUESTIONS[name](given), ANSWERS[name], name)
            self.assertEqual(QUESTIONS[name](copy.deepcopy(given)), ANSWERS[name], name)

    def test_what_is_told_may_be_changed(self):
        given = sample()
        for name, question in QUESTIONS.items():
            ruin(question(given))
            self.assertEqual(repr(given), repr(sample()), name)
            for later in QUESTIONS:
                self.assertEqual(QUESTIONS[later](given), ANSWERS[later], (name, later))

    def test_no_told_list_changes_with_another(self):
        given = sample()
        for name, question in QUESTIONS.items():
            first = question(given)
            second = question(given)
            ruin(first)
            self.assertEqual(second, ANSWERS[name], name)

    def test_no_told_list_is_told_twice_or_was_handed_in(self):
        given = sample()
        told = [question(given) for question in list(QUESTIONS.values()) * 2]
        parts = [part for answer in told for part in lists_in(answer)] + lists_in(given)
        self.assertEqual(len({id(part) for part in parts}), len(parts))

    def test_empty_lists_are_the_askers_own_too(self):
        works = [[([], OUT)], [([], OUT)]]
        for question in (
            lambda: boxes_in(works[0]), lambda: rounds_in(works[0]), lambda: asks(works)[0], lambda: asks(works)[1],
            lambda: reached(works, 0, 0), lambda: awaited(works, 0, 0), lambda: busy(works, 0, 0),
            lambda: meant(works, 0, [0] * 8, [], 9)[1], lambda: run(works, 0, [0] * 8, [], 9)[1],
            lambda: run(works, 0, [0] * 8, [], 9)[2], lambda: put_on(works[0], {}), lambda: splits(works[0], {}),
            lambda: built(works[0], {})[0][0],
        ):
            told = question()
            self.assertEqual(told, [])
            told.append(9)
            self.assertEqual(question(), [])
        both = asks(works)
        both[0].append(9)
        self.assertEqual(both, [[9], []])
        both = built_all(works, [{}, {}])
        both[0][0][0].append(9)
        self.assertEqual((both[1], works), ([([], OUT)], [[([], OUT)], [([], OUT)]]))

    def test_empty_plans_are_the_askers_own_too(self):
        works = [[([], OUT)]]
        for question in (
            lambda: plain_plan(works[0]), lambda: tight_plan(works, 0),
            lambda: cheapest_plan(works, 0, [1, 1], (1, 1), []),
        ):
            told = question()
            self.assertEqual(told, {})
            told[0] = []
            self.assertEqual(question(), {})

    def test_what_its_owner_changed_is_told_of_as_it_then_is(self):
        given = sample()
        ahead = {name: question(given) for name, question in QUESTIONS.items()}
        change(given)
        for name, question in QUESTIONS.items():
            self.assertEqual(question(given), ANSWERS_LATER[name], name)
        self.assertEqual(ahead, ANSWERS)

    def test_a_work_made_plain_and_not_by_its_owner(self):
        works = sample()["works"]
        self.assertIs(is_plain(works[0]), True)
        works[0][1][0].append(("back", 0))
        self.assertIs(is_plain(works[0]), False)
        works[0][1][0].pop()
        self.assertIs(is_plain(works[0]), True)

    def test_a_work_made_wrong_by_its_owner(self):
        works = sample()["works"]
        self.assertIs(are_works(works), True)
        works[1][0][0].append(("call", 3))
        self.assertIs(are_works(works), False)
        self.assertIs(is_work(works[1], 3), False)
        works[1][0][0].pop()
        self.assertIs(are_works(works), True)
        self.assertIs(is_work(works[1], 3), True)


if __name__ == "__main__":
    unittest.main()
