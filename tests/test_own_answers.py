"""What is told is the asker's own, and what is handed in stays as it was and isn't kept."""

import copy
import unittest

from fewsaves.lives import asks, awaited, busy, reached
from fewsaves.works import are_works, boxes_in, is_plain, is_work, rounds_in, ways_of
from samples import OUT


def sample():
    return [
        [
            ([("set", 0, 5), ("set", 1, 2)], ("go", 1)),
            ([("add", 2, 0), ("call", 1)], ("fork", 1, 2)),
            ([("tell", 1), ("tell", 0)], OUT),
        ],
        [([("tell", 3), ("call", 0)], ("fork", 2, 1)), ([("tell", 4)], ("go", 2)), ([("set", 4, 1)], OUT)],
    ]


# Each question, asked of works.
QUESTIONS = {
    "are_works": are_works,
    "is_work": lambda works: is_work(works[0], 2),
    "is_plain": lambda works: is_plain(works[0]),
    "ways_of": lambda works: ways_of(works[0]),
    "boxes_in": lambda works: boxes_in(works[0]),
    "rounds_in": lambda works: rounds_in(works[0]),
    "asks": asks,
    "reached": lambda works: reached(works, 0, 0),
    "awaited": lambda works: awaited(works, 0, 0),
    "busy": lambda works: busy(works, 0, 0),
}

ANSWERS = {
    "are_works": True,
    "is_work": True,
    "is_plain": True,
    "ways_of": [(-1, 0), (0, 1), (1, 1), (1, 2), (2, 3)],
    "boxes_in": [0, 1, 2],
    "rounds_in": [(1, 1)],
    "asks": [[2, 3, 4], [2, 3, 4]],
    "reached": [1, 2],
    "awaited": [1, 2],
    "busy": [0, 1, 2],
}

# The same, once the owner has changed the first work as change does.
ANSWERS_LATER = {
    "are_works": True,
    "is_work": True,
    "is_plain": True,
    "ways_of": [(-1, 0), (0, 1), (1, 2), (2, 3), (3, 4)],
    "boxes_in": [1, 2, 6],
    "rounds_in": [],
    "asks": [[0, 2, 3, 4, 5], [0, 2, 3, 4, 5]],
    "reached": [],
    "awaited": [0, 1, 2],
    "busy": [],
}


def change(works):
    works[0][0][0][0] = ("tell", 5)
    works[0][1] = (works[0][1][0], ("go", 2))
    works[0][2] = (works[0][2][0], ("go", 3))
    works[0].append(([("set", 6, 1)], OUT))


def lists_in(thing):
    """All lists and dicts in a thing, itself too."""
    found = [thing] if isinstance(thing, (list, dict)) else []
    if isinstance(thing, (list, tuple)):
        for part in thing:
            found.extend(lists_in(part))
    return found


def ruin(thing):
    for part in lists_in(thing):
        part.insert(0, "ruined")
        part.append(None)


class OwnAnswers(unittest.TestCase):
    def test_answers(self):
        for name, question in QUESTIONS.items():
            told = question(sample())
            # How they are written tells lists from tuples and True from 1, too.
            self.assertEqual(repr(told), repr(ANSWERS[name]), name)

    def test_what_is_handed_in_stays_as_it_was(self):
        works = sample()
        for name, question in QUESTIONS.items():
            question(works)
            self.assertEqual(repr(works), repr(sample()), name)

    def test_what_is_handed_in_stays_the_very_same_things(self):
        works = sample()
        ahead = [id(part) for part in lists_in(works)]
        for name, question in QUESTIONS.items():
            question(works)
            self.assertEqual([id(part) for part in lists_in(works)], ahead, name)

    def test_the_same_question_is_told_the_same(self):
        works = sample()
        for name in list(QUESTIONS) + list(QUESTIONS)[::-1]:
            self.assertEqual(QUESTIONS[name](works), ANSWERS[name], name)
            self.assertEqual(QUESTIONS[name](copy.deepcopy(works)), ANSWERS[name], name)

    def test_what_is_told_may_be_changed(self):
        works = sample()
        for name, question in QUESTIONS.items():
            ruin(question(works))
            self.assertEqual(repr(works), repr(sample()), name)
            for later in QUESTIONS:
                self.assertEqual(QUESTIONS[later](works), ANSWERS[later], (name, later))

    def test_no_told_list_changes_with_another(self):
        works = sample()
        for name, question in QUESTIONS.items():
            first = question(works)
            second = question(works)
            ruin(first)
            self.assertEqual(second, ANSWERS[name], name)

    def test_no_told_list_is_told_twice_or_was_handed_in(self):
        works = sample()
        told = [question(works) for question in list(QUESTIONS.values()) * 2]
        parts = [part for answer in told for part in lists_in(answer)] + lists_in(works)
        self.assertEqual(len({id(part) for part in parts}), len(parts))

    def test_empty_lists_are_the_askers_own_too(self):
        works = [[([], OUT)], [([], OUT)]]
        for question in (
            lambda: boxes_in(works[0]), lambda: rounds_in(works[0]), lambda: asks(works)[0], lambda: asks(works)[1],
            lambda: reached(works, 0, 0), lambda: awaited(works, 0, 0), lambda: busy(works, 0, 0),
        ):
            told = question()
            self.assertEqual(told, [])
            told.append(9)
            self.assertEqual(question(), [])
        both = asks(works)
        both[0].append(9)
        self.assertEqual(both, [[9], []])

    def test_a_work_changed_by_its_owner_is_told_of_as_it_then_is(self):
        works = sample()
        ahead = {name: question(works) for name, question in QUESTIONS.items()}
        change(works)
        for name, question in QUESTIONS.items():
            self.assertEqual(question(works), ANSWERS_LATER[name], name)
        self.assertEqual(ahead, ANSWERS)

    def test_a_work_made_plain_and_not_by_its_owner(self):
        works = sample()
        self.assertIs(is_plain(works[0]), True)
        works[0][1][0].append(("back", 0))
        self.assertIs(is_plain(works[0]), False)
        works[0][1][0].pop()
        self.assertIs(is_plain(works[0]), True)

    def test_a_work_made_wrong_by_its_owner(self):
        works = sample()
        self.assertIs(are_works(works), True)
        works[1][0][0].append(("call", 2))
        self.assertIs(are_works(works), False)
        self.assertIs(is_work(works[1], 2), False)
        works[1][0][0].pop()
        self.assertIs(are_works(works), True)
        self.assertIs(is_work(works[1], 2), True)


if __name__ == "__main__":
    unittest.main()
