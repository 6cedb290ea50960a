"""What the document promises above all, on runs of drawn works with drawn plans and with the cheapest ones."""

import random
import unittest

from fewsaves.building import built, built_all
from fewsaves.cuts import cheapest_plan, least_cost, widest
from fewsaves.flowcheck import shows_cheapest
from fewsaves.flows import flow_paper
from fewsaves.measuring import measured
from fewsaves.plans import cost, home_of, is_plan, plain_plan, put_on, splits, tight_plan
from fewsaves.runs import meant, moves_done, run
from fewsaves.texts import read_works, works_text
from fewsaves.works import are_works, boxes_in, rounds_in
from samples import (
    PlainRun, some_boxes, some_choices, some_counts, some_ending_works, some_plans, some_prices, some_works, wrong_turns,
)

MUCH = 600


def widest_plan(works, number, counts, prices, shut):
    return {box: widest(works, number, box, counts, prices, shut) for box in boxes_in(works[number])}


class AboveAll(unittest.TestCase):
    def drawn(self, seeds):
        for seed in range(seeds):
            dice = random.Random(seed)
            yield dice, some_works(seed) if seed % 3 == 0 else some_ending_works(seed)

    def cheapest_plans(self, works, counts, prices, shut):
        """For each work the cheapest plan, or the tight one where there is none."""
        plans = []
        for number in range(len(works)):
            plan = cheapest_plan(works, number, counts[number], prices, shut[number])
            plans.append(tight_plan(works, number) if plan is None else plan)
        return plans

    def hold_run(self, works, plans, others):
        """The works with the plans put in tell what is meant and leave the boxes as they were."""
        number, boxes, choices = others
        for at, plan in enumerate(plans):
            self.assertIs(is_plan(works, at, plan), True)
        laid = built_all(works, plans)
        self.assertIs(are_works(laid), True)
        state, told = meant(works, number, boxes, choices, MUCH)
        ran = run(laid, number, boxes, choices, 2 * MUCH)
        self.assertEqual(ran[2], [])
        self.assertNotEqual(ran[0], "bare")
        if state != "going":
            self.assertEqual(ran[:2], (state, told))
        if ran[0] == "ended":
            self.assertEqual(ran[3], boxes)
        self.assertEqual(wrong_turns(PlainRun(laid, number, boxes, choices, 2 * MUCH, False)), [])
        return state

    def hold_moves(self, works, plans, others):
        """On a measured run that is ended the saves and backs are the told cost, to the number."""
        number, boxes, choices = others
        counts = measured(works, number, boxes, choices, MUCH)
        saves, backs = moves_done(built_all(works, plans), number, boxes, choices, 2 * MUCH)
        for prices, expected in (((1, 0), saves), ((0, 1), backs), ((3, 5), 3 * saves + 5 * backs)):
            told = [cost(work, plan, some, prices) for work, plan, some in zip(works, plans, counts)]
            self.assertEqual(sum(told), expected)

    def test_runs_with_drawn_plans_and_with_the_cheapest(self):
        states = []
        for dice, works in self.drawn(180):
            others = (dice.randrange(len(works)), some_boxes(dice), some_choices(dice, 60))
            open_ways = [[] for work in works]
            rounds = [rounds_in(work) for work in works]
            counts = [some_counts(dice, work) for work in works]
            prices = some_prices(dice)
            own = measured(works, *others, MUCH)
            for plans in (
                some_plans(dice, works), self.cheapest_plans(works, counts, prices, open_ways),
                self.cheapest_plans(works, own, (1, 1), open_ways), self.cheapest_plans(works, own, prices, rounds),
                [widest_plan(works, number, own[number], (1, 1), []) for number in range(len(works))],
            ):
                state = self.hold_run(works, plans, others)
                states.append(state)
                if state == "ended":
                    self.hold_moves(works, plans, others)
        for state in ("ended", "going", "deep"):
            self.assertGreater(states.count(state), 20, state)

    def test_no_plan_costs_less_on_the_measured_run(self):
        less = 0
        for dice, works in self.drawn(240):
            others = (dice.randrange(len(works)), some_boxes(dice), some_choices(dice, 60))
            if meant(works, *others, MUCH)[0] != "ended":
                continue
            counts = measured(works, *others, MUCH)
            best = self.cheapest_plans(works, counts, (1, 1), [[] for work in works])
            fewest = sum(moves_done(built_all(works, best), *others, 2 * MUCH))
            door = [plain_plan(work) for work in works]
            for plans in [door] + [some_plans(dice, works) for _ in range(4)]:
                many = sum(moves_done(built_all(works, plans), *others, 2 * MUCH))
                self.assertLessEqual(fewest, many)
                less += fewest < many
        self.assertGreater(less, 50)

    def test_no_plan_costs_less_whatever_the_counts_and_the_paper_adds_up(self):
        for dice, works in self.drawn(200):
            for number, work in enumerate(works):
                counts, prices = some_counts(dice, work), some_prices(dice)
                best = cheapest_plan(works, number, counts, prices, [])
                told = cost(work, best, counts, prices)
                parts = [least_cost(works, number, box, counts, prices, []) for box in best]
                self.assertEqual(told, sum(parts))
                for plan in [plain_plan(work)] + [some_plans(dice, works)[number] for _ in range(4)]:
                    self.assertLessEqual(told, cost(work, plan, counts, prices))
                for box, inside in best.items():
                    asked = (works, number, box, counts, prices, [])
                    self.assertIs(shows_cheapest(*asked, inside, flow_paper(*asked)), True)

    def test_nothing_is_put_on_shut_ways(self):
        held = 0
        for dice, works in self.drawn(200):
            for number, work in enumerate(works):
                shut = rounds_in(work)
                plan = cheapest_plan(works, number, some_counts(dice, work), some_prices(dice), shut)
                if plan is not None:
                    self.assertEqual([row for row in put_on(work, plan) if row[0] in shut], [])
                    held += bool(plan and shut)
        self.assertGreater(held, 50)

    def test_ways_are_split_only_where_told(self):
        for dice, works in self.drawn(200):
            for number, work in enumerate(works):
                plan = cheapest_plan(works, number, some_counts(dice, work), some_prices(dice), [])
                ways = {way for way, word, box in put_on(work, plan) if home_of(work, way) == "split"}
                self.assertEqual(splits(work, plan), sorted(ways))
                self.assertEqual(len(built(work, plan)), len(work) + len(ways))

    def test_built_works_there_and_back_as_texts(self):
        for dice, works in self.drawn(100):
            counts = [some_counts(dice, work) for work in works]
            laid = built_all(works, self.cheapest_plans(works, counts, (2, 3), [[] for work in works]))
            self.assertEqual(read_works(works_text(laid)), laid)


if __name__ == "__main__":
    unittest.main()
