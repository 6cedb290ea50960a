"""meant, run and moves_done."""

import random
import unittest

from fewsaves.runs import meant, moves_done, run
from samples import ALL_WORDS, OUT, PlainRun, some_boxes, some_choices, some_works

NONE = [0] * 8
SOME = [10, 11, 12, 13, 14, 15, 16, 17]
MUCH = 1000


def one(*deeds):
    """A work of one block."""
    return [(list(deeds), OUT)]


def chain(many):
    """Works of which each calls the next one; the last tells box 0."""
    return [one(("call", at + 1)) for at in range(many - 1)] + [one(("tell", 0))]


# Block 1 tells box 0 and forks to itself, or on to block 2, which tells box 1.
ROUND = [([], ("go", 1)), ([("tell", 0)], ("fork", 1, 2)), ([("tell", 1)], OUT)]

# Block 0 leads to block 1, or to block 2, of which each tells its own number.
FORK = [([], ("fork", 1, 2)), ([("set", 0, 1), ("tell", 0)], OUT), ([("set", 0, 2), ("tell", 0)], OUT)]


def meant_and_told(works, *others):
    """What meant tells, held against what run tells of the same, where boxes are shared but don't matter."""
    told = meant(works, *others)
    assert run(works, *others)[:2] == told
    return told


class Both(unittest.TestCase):
    """What meant and run tell alike."""

    def hold(self, works, others, expected):
        told = meant_and_told(works, *others)
        self.assertEqual(told, expected)
        self.assertEqual(repr(told), repr(expected))

    def test_no_deeds(self):
        self.hold([one()], (0, NONE, [], MUCH), ("ended", []))

    def test_deeds_in_order(self):
        work = one(("tell", 3), ("set", 3, 5), ("tell", 3), ("add", 3, 4), ("tell", 3), ("tell", 4))
        self.hold([work], (0, SOME, [], MUCH), ("ended", [13, 5, 19, 14]))

    def test_a_box_added_to_itself(self):
        self.hold([one(("add", 7, 7), ("add", 7, 7), ("tell", 7))], (0, SOME, [], MUCH), ("ended", [68]))

    def test_great_numbers_and_numbers_below_0(self):
        great = 10 ** 12
        work = one(("set", 0, great), ("set", 1, -great), *[("add", 0, 0)] * 12, ("tell", 0), ("add", 0, 1), ("tell", 0))
        self.hold([work], (0, NONE, [], MUCH), ("ended", [great * 4096, great * 4095]))
        self.hold([one(("add", 0, 1), ("tell", 0))], (0, [-great] * 8, [], MUCH), ("ended", [-2 * great]))

    def test_go_leads_on(self):
        work = [([("tell", 0)], ("go", 2)), ([("tell", 2)], OUT), ([("tell", 1)], ("go", 1))]
        self.hold([work], (0, SOME, [], MUCH), ("ended", [10, 11, 12]))

    def test_the_work_of_that_number_is_run(self):
        works = [one(("tell", at)) for at in range(8)]
        for number in range(8):
            self.hold(works, (number, SOME, [], MUCH), ("ended", [10 + number]))

    def test_0_leads_to_to_and_any_other_number_to_other(self):
        self.hold([FORK], (0, NONE, [0], MUCH), ("ended", [1]))
        for choice in (1, 2, -1, 10 ** 12, -10 ** 12):
            self.hold([FORK], (0, NONE, [choice], MUCH), ("ended", [2]))
        turned = [([], ("fork", 2, 1))] + FORK[1:]
        self.hold([turned], (0, NONE, [0], MUCH), ("ended", [2]))
        self.hold([turned], (0, NONE, [7], MUCH), ("ended", [1]))

    def test_behind_the_last_choice_all_are_0(self):
        self.hold([FORK], (0, NONE, [], MUCH), ("ended", [1]))
        self.hold([FORK, one(*[("call", 0)] * 4)], (1, NONE, [0, 5], MUCH), ("ended", [1, 2, 1, 1]))
        self.hold([ROUND], (0, SOME, [], 5), ("going", [10, 10]))

    def test_choices_are_taken_one_behind_the_other(self):
        self.hold([ROUND], (0, SOME, [0, 0, 0, 9], MUCH), ("ended", [10, 10, 10, 10, 11]))
        self.hold([ROUND], (0, SOME, [9, 0, 0, 0], MUCH), ("ended", [10, 11]))

    def test_calls_take_choices_too(self):
        # The caller forks, calls what forks, and forks again.
        caller = [
            ([], ("fork", 1, 2)), ([("set", 1, 8), ("call", 1)], ("go", 2)), ([("tell", 1), ("set", 1, 0)], ("fork", 3, 4)),
            ([("tell", 2)], OUT), ([("tell", 3)], OUT),
        ]
        self.hold([caller, FORK], (0, SOME, [0, 0, 0], MUCH), ("ended", [1, 8, 12]))
        self.hold([caller, FORK], (0, SOME, [0, 1, 0], MUCH), ("ended", [2, 8, 12]))
        self.hold([caller, FORK], (0, SOME, [0, 0, 1], MUCH), ("ended", [1, 8, 13]))
        self.hold([caller, FORK], (0, SOME, [1, 0, 1], MUCH), ("ended", [11, 12]))
        self.hold([caller, FORK], (0, SOME, [1, 1, 0], MUCH), ("ended", [11, 13]))

    def test_more_choices_than_are_taken(self):
        self.hold([one(("tell", 0))], (0, SOME, [1, 2, 3], MUCH), ("ended", [10]))

    def test_a_caller_goes_on_behind_its_call(self):
        works = [[([("tell", 0), ("call", 1), ("tell", 1)], ("go", 1)), ([("tell", 3)], OUT)], one(("tell", 2))]
        self.hold(works, (0, SOME, [], MUCH), ("ended", [10, 12, 11, 13]))


class Steps(unittest.TestCase):
    """Each coming to a block is a step, and each deed but save and back."""

    def hold_steps(self, works, others, steps, told):
        """That the run ends with just so many steps, and with fewer is going, telling as much as was done."""
        number, boxes, choices = others
        for most in (steps, steps + 1, steps + 1000):
            self.assertEqual(meant_and_told(works, number, boxes, choices, most), ("ended", told))
        so_far = [[]]
        for most in range(steps):
            state, some = meant_and_told(works, number, boxes, choices, most)
            self.assertEqual(state, "going", most)
            self.assertEqual(some, told[:len(some)])
            self.assertIn(len(some) - len(so_far[-1]), (0, 1))
            so_far.append(some)

    def test_each_step(self):
        self.hold_steps([one()], (0, NONE, []), 1, [])
        self.hold_steps([one(("set", 0, 1))], (0, NONE, []), 2, [])
        self.hold_steps([one(("add", 0, 1))], (0, NONE, []), 2, [])
        self.hold_steps([one(("tell", 0))], (0, NONE, []), 2, [0])
        self.hold_steps([one(("call", 1)), one()], (0, NONE, []), 3, [])
        self.hold_steps([[([], ("go", 1)), ([], OUT)]], (0, NONE, []), 2, [])
        self.hold_steps([[([], ("fork", 2, 1)), ([], OUT), ([], OUT)]], (0, NONE, [0]), 2, [])

    def test_more_steps(self):
        self.hold_steps([one(("tell", 0), ("set", 0, 4), ("tell", 0), ("tell", 0))], (0, NONE, []), 5, [0, 4, 4])
        self.hold_steps([ROUND], (0, SOME, [0, 0, 1]), 9, [10, 10, 10, 11])
        self.hold_steps([one(("call", 1), ("call", 1), ("tell", 1)), ROUND], (0, SOME, [0, 3, 3]), 16, [
            10, 10, 11, 10, 11, 11,
        ])

    def test_none_at_all(self):
        self.assertEqual(meant([one(("tell", 0))], 0, SOME, [], 0), ("going", []))
        self.assertEqual(run([one(("save", 0), ("tell", 0))], 0, SOME, [], 0), ("going", [], [], SOME))
        self.assertEqual(moves_done([one(("save", 0))], 0, SOME, [], 0), (0, 0))
        self.assertEqual(run([one(("back", 0))], 0, SOME, [], 0)[0], "going")

    def test_a_tell_is_told_just_where_its_step_is_done(self):
        for most, told in ((1, []), (2, [10]), (3, [10, 11]), (4, [10, 11])):
            work = one(("tell", 0), ("tell", 1), ("call", 0))
            self.assertEqual(meant_and_told([work], 0, SOME, [], most), ("going", told))

    def test_save_and_back_are_no_steps(self):
        work = one(("save", 0), ("set", 0, 1), ("save", 0), ("back", 0), ("back", 0))
        self.assertEqual(run([work], 0, SOME, [], 2)[0], "ended")
        self.assertEqual(run([work], 0, SOME, [], 1)[0], "going")
        self.assertEqual(moves_done([work], 0, SOME, [], 1), (1, 0))
        self.assertEqual(moves_done([work], 0, SOME, [], 2), (2, 2))

    def test_saves_and_backs_behind_the_last_step_are_done_till_one_is_due(self):
        work = one(("set", 0, 1), ("save", 0), ("save", 1), ("back", 1), ("tell", 0), ("save", 2))
        self.assertEqual(moves_done([work], 0, SOME, [], 2), (2, 1))
        self.assertEqual(run([work], 0, SOME, [], 2)[0], "going")

    def test_a_run_of_very_many_steps(self):
        # Block 0 is one step; each round is two.
        for most, tells in ((20000, 10000 - 1), (19999, 9999), (20001, 10000), (20002, 10000)):
            state, told = meant_and_told([ROUND], 0, SOME, [], most)
            self.assertEqual((state, len(told)), ("going", tells))
            self.assertEqual(set(told), {10})

    def test_a_run_of_just_20000_steps(self):
        # 25 steps, 399 rounds of 50 steps each, and 25 steps more.
        adds = [("add", 0, 1)] * 24
        work = [
            ([("set", 1, 1)] * 24, ("go", 1)), (adds, ("go", 2)), (adds, ("fork", 1, 3)),
            ([("add", 0, 1)] * 23 + [("tell", 0)], OUT),
        ]
        choices = [0] * 398 + [1]
        self.assertEqual(meant_and_told([work], 0, NONE, choices, 20000), ("ended", [399 * 48 + 23]))
        self.assertEqual(meant_and_told([work], 0, NONE, choices, 19999), ("going", []))

    def test_400_choices(self):
        choices = [at % 3 for at in range(400)]
        works = [one(*[("call", 1)] * 20), FORK, one(*[("call", 0)] * 20), one(("call", 2), ("call", 0))]
        told = [2 if choice else 1 for choice in choices]
        self.assertEqual(meant_and_told(works, 2, NONE, choices, 20000), ("ended", told))
        self.assertEqual(meant_and_told(works, 3, NONE, choices, 20000), ("ended", told + [1] * 20))

    def test_the_last_of_400_choices(self):
        self.assertEqual(meant_and_told([ROUND], 0, SOME, [0] * 399 + [1], 20000), ("ended", [10] * 400 + [11]))


class Deep(unittest.TestCase):
    def test_the_21st_call_within_one_another(self):
        for many in range(1, 25):
            expected = ("ended", [10]) if many <= 20 else ("deep", [])
            self.assertEqual(meant_and_told(chain(many), 0, SOME, [], MUCH), expected, many)

    def test_begun_with_a_later_one(self):
        self.assertEqual(meant_and_told(chain(24), 4, SOME, [], MUCH), ("ended", [10]))
        self.assertEqual(meant_and_told(chain(24), 3, SOME, [], MUCH), ("deep", []))

    def test_its_step_is_done(self):
        # Each call is two steps, coming to its block and calling on: the 40th would be the 21st call.
        for works in (chain(24), [one(("call", 0))]):
            self.assertEqual(meant_and_told(works, 0, SOME, [], 39)[0], "going")
            self.assertEqual(meant_and_told(works, 0, SOME, [], 40)[0], "deep")
            self.assertEqual(meant_and_told(works, 0, SOME, [], 41)[0], "deep")

    def test_the_20th_call_is_done(self):
        works = chain(20)
        for most in (38, 39):
            self.assertEqual(meant_and_told(works, 0, SOME, [], most), ("going", []))
        self.assertEqual(meant_and_told(works, 0, SOME, [], 40), ("ended", [10]))

    def test_what_was_told_ahead(self):
        works = [one(("tell", 3), ("call", 0), ("tell", 4))]
        self.assertEqual(meant_and_told(works, 0, SOME, [], MUCH), ("deep", [13] * 20))

    def test_calls_behind_one_another_are_not_deep(self):
        works = [one(*[("call", 1)] * 24), one(*[("call", 2)] * 24), one(("tell", 0))]
        self.assertEqual(meant_and_told(works, 0, SOME, [], 20000), ("ended", [10] * 576))

    def test_deep_behind_calls_that_ended(self):
        works = [one(*[("call", 1)] * 22, ("call", 2)), one(("tell", 0)), one(("call", 2))]
        self.assertEqual(meant_and_told(works, 0, SOME, [], MUCH), ("deep", [10] * 22))

    def test_a_call_of_itself_that_ends(self):
        # It calls itself as long as choices are 1.
        work = [([], ("fork", 2, 1)), ([("call", 0)], ("go", 2)), ([("tell", 0)], OUT)]
        for times in range(20):
            self.assertEqual(meant_and_told([work], 0, SOME, [1] * times, MUCH), ("ended", [10] * (times + 1)))
        self.assertEqual(meant_and_told([work], 0, SOME, [1] * 20, MUCH), ("deep", []))

    def test_faults_and_boxes_of_a_run_that_is_deep(self):
        works = [one(("set", 0, 1), ("call", 1), ("call", 2)), one(("set", 5, 9)), one(("set", 6, 3), ("call", 2))]
        self.assertEqual(run(works, 0, NONE, [], MUCH), ("deep", [], [(1, 5)], [1, 0, 0, 0, 0, 9, 3, 0]))


class Meant(unittest.TestCase):
    def test_a_call_has_boxes_of_its_own_and_the_callers_stay(self):
        works = [one(("set", 0, 5), ("call", 1), ("tell", 0), ("tell", 1)), one(("set", 0, 7), ("set", 1, 8), ("tell", 0))]
        self.assertEqual(meant(works, 0, SOME, [], MUCH), ("ended", [7, 5, 11]))

    def test_they_hold_at_first_what_the_callers_hold_then(self):
        works = [one(("set", 0, 5), ("call", 1), ("add", 0, 0), ("call", 1)), one(("tell", 0), ("set", 0, 1), ("tell", 7))]
        self.assertEqual(meant(works, 0, SOME, [], MUCH), ("ended", [5, 17, 10, 17]))

    def test_a_call_of_itself(self):
        work = [([("add", 0, 1)], ("fork", 2, 1)), ([("call", 0)], ("go", 2)), ([("tell", 0)], OUT)]
        self.assertEqual(meant([work], 0, [0, 1] + [0] * 6, [1, 1, 1], MUCH), ("ended", [4, 3, 2, 1]))


class Run(unittest.TestCase):
    def hold(self, works, others, expected):
        told = run(works, *others)
        self.assertEqual(told, expected)
        self.assertEqual(repr(told), repr(expected))

    def test_all_calls_share_the_boxes(self):
        works = [one(("set", 0, 5), ("call", 1), ("tell", 0), ("tell", 1)), one(("set", 0, 7), ("set", 1, 8), ("tell", 0))]
        expected = ("ended", [7, 7, 8], [(1, 0), (1, 1), (0, 0), (0, 1)], [7, 8, 12, 13, 14, 15, 16, 17])
        self.hold(works, (0, SOME, [], MUCH), expected)

    def test_what_boxes_hold_in_the_end(self):
        self.hold([one()], (0, SOME, [], MUCH), ("ended", [], [], SOME))
        self.hold([one(("set", 7, 1), ("add", 6, 7))], (0, NONE, [], 2), ("going", [], [], [0] * 7 + [1]))

    def test_faults_by_rising_boxes(self):
        for order in ((0, 3, 7), (7, 3, 0), (3, 7, 0)):
            work = one(*[("set", box, 1) for box in order])
            expected = ("ended", [], [(0, 0), (0, 3), (0, 7)], [1, 0, 0, 1, 0, 0, 0, 1])
            self.hold([work], (0, NONE, [], MUCH), expected)

    def test_no_fault_where_a_box_holds_the_same_again(self):
        self.hold([one(("set", 0, 4), ("set", 0, 10))], (0, SOME, [], MUCH), ("ended", [], [], SOME))
        self.hold([one(("add", 3, 3))], (0, NONE, [], MUCH), ("ended", [], [], NONE))

    def test_faults_at_each_way_out_as_it_comes(self):
        works = [one(("call", 1), ("call", 2), ("call", 1)), one(("call", 2), ("add", 0, 1)), one(("add", 2, 1))]
        faults = [(2, 2), (1, 0), (1, 2), (2, 2), (2, 2), (1, 0), (1, 2), (0, 0), (0, 2)]
        self.hold(works, (0, [1] * 8, [], MUCH), ("ended", [], faults, [3, 1, 4, 1, 1, 1, 1, 1]))

    def test_a_callees_change_is_a_fault_of_the_caller_too(self):
        works = [one(("call", 1)), one(("set", 4, 1))]
        self.hold(works, (0, NONE, [], MUCH), ("ended", [], [(1, 4), (0, 4)], [0, 0, 0, 0, 1, 0, 0, 0]))

    def test_a_caller_may_mend_what_its_callee_changed(self):
        works = [one(("save", 4), ("call", 1), ("back", 4)), one(("set", 4, 1))]
        self.hold(works, (0, SOME, [], MUCH), ("ended", [], [(1, 4)], SOME))

    def test_what_they_held_as_that_call_began_not_the_run(self):
        works = [one(("set", 0, 5), ("call", 1), ("set", 0, 0)), one(("tell", 0))]
        self.hold(works, (0, NONE, [], MUCH), ("ended", [5], [], NONE))
        works = [one(("set", 0, 5), ("call", 1)), one(("set", 0, 0))]
        self.hold(works, (0, NONE, [], MUCH), ("ended", [], [(1, 0)], NONE))

    def test_no_faults_of_calls_that_did_not_end(self):
        works = [one(("call", 1), ("set", 3, 3), ("tell", 3)), one(("set", 4, 4))]
        self.hold(works, (0, NONE, [], 5), ("going", [], [(1, 4)], [0, 0, 0, 3, 4, 0, 0, 0]))

    def test_save_and_back(self):
        work = one(("save", 0), ("set", 0, 5), ("tell", 0), ("back", 0), ("tell", 0))
        self.hold([work], (0, SOME, [], MUCH), ("ended", [5, 10], [], SOME))

    def test_what_was_laid_aside_stays_so(self):
        work = one(("save", 0), ("set", 0, 5), ("back", 0), ("tell", 0), ("set", 0, 6), ("back", 0), ("tell", 0))
        self.hold([work], (0, SOME, [], MUCH), ("ended", [10, 10], [], SOME))

    def test_what_was_laid_aside_last_comes_back(self):
        work = one(("save", 0), ("set", 0, 5), ("save", 0), ("set", 0, 6), ("back", 0), ("tell", 0), ("back", 0), ("tell", 0))
        self.hold([work], (0, [1] * 8, [], MUCH), ("ended", [5, 5], [(0, 0)], [5] + [1] * 7))

    def test_each_box_is_laid_aside_by_itself(self):
        work = one(("save", 1), ("save", 2), ("set", 1, 0), ("set", 2, 0), ("back", 1), ("tell", 1), ("tell", 2))
        self.hold([work], (0, [5] * 8, [], MUCH), ("ended", [5, 0], [(0, 2)], [5, 5, 0, 5, 5, 5, 5, 5]))

    def test_each_call_has_places_of_its_own_to_lay_aside(self):
        # What the callee lays aside isn't what the caller brings back.
        works = [one(("save", 0), ("set", 0, 5), ("call", 1), ("back", 0), ("tell", 0)), one(("save", 0))]
        self.hold(works, (0, SOME, [], MUCH), ("ended", [10], [], SOME))
        # A callee has laid nothing aside, though its caller has.
        works = [one(("save", 0), ("call", 1)), one(("tell", 1), ("back", 0))]
        self.hold(works, (0, SOME, [], MUCH), ("bare", [11], [], SOME))
        # Nor has a caller, though its callee has.
        works = [one(("call", 1), ("back", 0)), one(("save", 0))]
        self.hold(works, (0, SOME, [], MUCH), ("bare", [], [], SOME))
        # Nor a later call of the same work.
        work = [([], ("fork", 1, 2)), ([("save", 0)], OUT), ([("back", 0)], OUT)]
        self.hold([one(("call", 1), ("call", 1)), work], (0, SOME, [0, 1], MUCH), ("bare", [], [], SOME))

    def test_a_call_of_itself_lays_aside_for_itself(self):
        deeds = [("save", 0), ("add", 0, 1)]
        work = [(deeds, ("fork", 2, 1)), ([("call", 0)], ("go", 2)), ([("tell", 0), ("back", 0)], OUT)]
        self.hold([work], (0, [0] + [1] * 7, [1, 1, 1], MUCH), ("ended", [4, 3, 2, 1], [], [0] + [1] * 7))

    def test_a_bare_back_is_not_done_and_nothing_behind_it(self):
        works = [one(("set", 1, 3), ("tell", 1), ("back", 0), ("tell", 2), ("set", 2, 2), ("save", 3))]
        self.hold(works, (0, NONE, [], MUCH), ("bare", [3], [], [0, 3, 0, 0, 0, 0, 0, 0]))
        self.assertEqual(moves_done(works, 0, NONE, [], MUCH), (0, 0))

    def test_another_box_laid_aside_makes_it_no_less_bare(self):
        self.hold([one(("save", 1), ("back", 0))], (0, NONE, [], MUCH), ("bare", [], [], NONE))

    def test_bare_behind_faults(self):
        works = [one(("call", 1), ("back", 0)), one(("set", 2, 3))]
        self.hold(works, (0, NONE, [], MUCH), ("bare", [], [(1, 2)], [0, 0, 3, 0, 0, 0, 0, 0]))

    def test_bare_where_no_step_is_left(self):
        # A back is no step, so it is due as soon as the last step is done.
        works = [one(("tell", 0), ("back", 0), ("tell", 0))]
        self.hold(works, (0, NONE, [], 1), ("going", [], [], NONE))
        self.hold(works, (0, NONE, [], 2), ("bare", [0], [], NONE))

    def test_bare_or_deep_whichever_comes_first(self):
        self.assertEqual(run([one(("back", 0), ("call", 0))], 0, NONE, [], MUCH)[0], "bare")
        self.assertEqual(run([one(("call", 0), ("back", 0))], 0, NONE, [], MUCH)[0], "deep")

    def test_boxes_laid_aside_in_another_block(self):
        work = [([("save", 5)], ("fork", 1, 2)), ([("set", 5, 0)], ("go", 2)), ([("back", 5)], OUT)]
        for choice in (0, 1):
            self.hold([work], (0, SOME, [choice], MUCH), ("ended", [], [], SOME))
            self.assertEqual(moves_done([work], 0, SOME, [choice], MUCH), (1, 1))


class MovesDone(unittest.TestCase):
    def hold(self, works, others, expected):
        told = moves_done(works, *others)
        self.assertEqual(told, expected)
        self.assertIs(type(told), tuple)

    def test_none(self):
        self.hold([one(("set", 0, 1), ("tell", 0))], (0, NONE, [], MUCH), (0, 0))

    def test_those_of_all_boxes_and_calls(self):
        works = [one(("save", 0), ("save", 3), ("call", 1), ("back", 0), ("call", 1)), one(("save", 0), ("save", 0))]
        self.hold(works, (0, NONE, [], MUCH), (6, 1))
        self.hold(works, (1, NONE, [], MUCH), (2, 0))

    def test_those_that_are_done_alone(self):
        work = [([("save", 0)], ("fork", 1, 2)), ([("back", 0), ("back", 0)], OUT), ([("save", 0), ("save", 0)], OUT)]
        self.hold([work], (0, NONE, [0], MUCH), (1, 2))
        self.hold([work], (0, NONE, [1], MUCH), (3, 0))
        self.hold([work], (0, NONE, [1], 1), (1, 0))

    def test_on_rounds(self):
        work = [([], ("go", 1)), ([("save", 0), ("back", 0), ("back", 0)], ("fork", 1, 2)), ([], OUT)]
        self.hold([work], (0, NONE, [0, 0, 0, 1], MUCH), (4, 8))
        self.hold([work], (0, NONE, [], 20000), (19999, 39998))

    def test_of_a_run_that_stops(self):
        self.hold([one(("save", 0), ("call", 0), ("back", 0))], (0, NONE, [], MUCH), (20, 0))
        self.hold([one(("save", 0), ("back", 0), ("back", 1), ("save", 1))], (0, NONE, [], MUCH), (1, 1))


class AgainstAPlainReckoning(unittest.TestCase):
    def test_meant(self):
        states = []
        for seed in range(1200):
            dice = random.Random(seed)
            works = some_works(seed)
            boxes, choices, most = some_boxes(dice), some_choices(dice), dice.randint(0, 120)
            for number in range(len(works)):
                plain = PlainRun(works, number, boxes, choices, most, True)
                told = meant(works, number, boxes, choices, most)
                self.assertEqual(told, (plain.state, plain.told()), seed)
                states.append(told[0])
        for state in ("ended", "going", "deep"):
            self.assertGreater(states.count(state), 50, state)

    def test_run_and_moves_done(self):
        states = []
        # Works with few calls end more often, and those with more saves than backs are less often bare.
        for words in (ALL_WORDS, ("set", "add", "tell", "tell", "save", "save", "save", "back", "call")):
            for seed in range(800):
                dice = random.Random(seed)
                works = some_works(seed, words, most_deeds=5)
                boxes, choices, most = some_boxes(dice), some_choices(dice), dice.randint(0, 90)
                for number in range(len(works)):
                    plain = PlainRun(works, number, boxes, choices, most, False)
                    told = run(works, number, boxes, choices, most)
                    self.assertEqual(told, (plain.state, plain.told(), plain.of("fault"), plain.boxes), seed)
                    self.assertEqual(moves_done(works, number, boxes, choices, most), plain.moves(), seed)
                    states.append(told[0])
        for state in ("ended", "going", "deep", "bare"):
            self.assertGreater(states.count(state), 50, state)


if __name__ == "__main__":
    unittest.main()
