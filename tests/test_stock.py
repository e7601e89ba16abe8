"""[60] and [61]: how many sets the workings need, and how they are linked."""

import random
import unittest
from itertools import combinations, product

from railhouse.errors import BadWorking
from railhouse.stock import deficit, is_linking, least_sets, link
from tests.support import GREAT, Case

WORKINGS = [(0, 4, 0, 30), (4, 0, 35, 60), (0, 4, 20, 50)]


def chance_workings(seed, many, places=3, longest=6, last=20):
    """Return workings that often start and end at the same moments."""
    chance, found = random.Random(seed), []
    for _ in range(many):
        start = chance.randint(0, last)
        found.append((chance.randrange(places), chance.randrange(places), start, start + chance.randint(1, longest)))
    return found


def plain_surplus(workings, place, moment, turning):
    gone = [row for row in workings if row[0] == place and row[2] <= moment]
    come = [row for row in workings if row[1] == place and row[3] + turning <= moment]
    return len(gone) - len(come)


def plain_deficit(workings, place, turning):
    """Look at every moment from before the first change to after the last one."""
    moments = range(-1, max([row[3] for row in workings], default=0) + turning + 2)
    greatest = max(plain_surplus(workings, place, moment, turning) for moment in moments)
    if greatest <= 0:
        return 0, None
    return greatest, min(at for at in moments if plain_surplus(workings, place, at, turning) == greatest)


def plain_link(workings, turning):
    found = []
    for _, number in sorted((row[2], number) for number, row in enumerate(workings)):
        origin, _, start, _ = workings[number]
        free = [(row[3], x) for x, row in enumerate(workings)
                if row[1] == origin and row[3] + turning <= start and x not in [first for first, _ in found]]
        if free:
            found.append((min(free)[1], number))
    return sorted(found)


def new_sets(workings, links, place):
    """Return the number of workings from the place that are no second of a link."""
    seconds = [second for _, second in links]
    return len([number for number, row in enumerate(workings) if row[0] == place and number not in seconds])


def all_linkings(workings, turning):
    """Return every linking of a few workings."""
    pairs = []
    for (x, one), (y, two) in product(enumerate(workings), repeat=2):
        if one[1] == two[0] and one[3] + turning <= two[2]:
            pairs.append((x, y))
    found = []
    for many in range(len(pairs) + 1):
        for links in combinations(pairs, many):
            if len({x for x, _ in links}) == many == len({y for _, y in links}):
                found.append(list(links))
    return found


class DeficitTest(Case):
    def test_example(self):
        found = [deficit(WORKINGS, 0), deficit(WORKINGS, 4), deficit(WORKINGS, 4, turning=10)]
        self.assertEqual(found, [(2, 20), (0, None), (1, 35)])

    def test_no_workings(self):
        self.assertEqual((deficit([], 0), deficit([], 7, turning=3)), ((0, None), (0, None)))
        self.assertEqual((deficit(WORKINGS, 1), deficit(WORKINGS, GREAT)), ((0, None), (0, None)))

    def test_a_start_at_the_moment_at_which_another_one_is_ready(self):
        workings = [(0, 1, 0, 10), (1, 0, 10, 20)]
        self.assertEqual(deficit(workings, 1), (0, None))
        self.assertEqual(deficit(workings, 1, turning=1), (1, 10))
        self.assertEqual(deficit([(0, 1, 0, 10), (1, 0, 13, 20)], 1, turning=3), (0, None))
        self.assertEqual(deficit([(0, 1, 0, 10), (1, 0, 13, 20)], 1, turning=4), (1, 13))

    def test_the_same_start(self):
        workings = [(0, 1, 5, 9), (0, 2, 5, 7), (0, 1, 5, 6), (0, 0, 4, 8)]
        self.assertEqual(deficit(workings, 0), (4, 5))
        self.assertEqual(deficit(workings[:3], 0), (3, 5))

    def test_the_same_end(self):
        workings = [(0, 1, 1, 9), (0, 1, 2, 9), (1, 0, 9, 12), (1, 0, 9, 13), (1, 0, 9, 14)]
        self.assertEqual(deficit(workings, 1), (1, 9))
        self.assertEqual(deficit(workings, 0), (2, 2))

    def test_the_earliest_moment(self):
        workings = [(0, 1, 1, 2), (1, 0, 3, 4), (0, 1, 5, 6), (1, 0, 7, 8), (0, 1, 9, 10)]
        self.assertEqual(deficit(workings, 0), (1, 1))
        self.assertEqual(deficit(workings, 1), (0, None))
        self.assertEqual(deficit(workings[::-1], 0), (1, 1))

    def test_from_a_place_to_the_same_place(self):
        self.assertEqual(deficit([(3, 3, 0, 5)], 3), (1, 0))
        self.assertEqual(deficit([(3, 3, 0, 5), (3, 3, 5, 9)], 3), (1, 0))
        self.assertEqual(deficit([(3, 3, 0, 5), (3, 3, 5, 9)], 3, turning=1), (2, 5))

    def test_the_moment_0(self):
        self.assertEqual(deficit([(0, 1, 0, 1)], 0), (1, 0))

    def test_by_chance(self):
        kinds = {}
        for seed in range(400):
            workings = chance_workings(seed, seed % 12)
            for place in range(3):
                for turning in (0, 1, seed % 5):
                    found = deficit(workings, place, turning=turning)
                    self.assertEqual(found, plain_deficit(workings, place, turning))
                    kinds[found[0]] = kinds.get(found[0], 0) + 1
        self.assertTrue(all(kinds[number] > 50 for number in range(5)), kinds)


class LeastSetsTest(Case):
    def test_ascending_without_places_that_need_none(self):
        self.assertEqual(least_sets(WORKINGS), [(0, 2)])
        self.assertEqual(least_sets(WORKINGS, turning=10), [(0, 2), (4, 1)])
        self.assertEqual(least_sets([(9, 1, 0, 1), (2, 1, 0, 1), (5, 1, 0, 1), (2, 9, 0, 1)]), [(2, 2), (5, 1), (9, 1)])

    def test_no_workings(self):
        self.assertEqual((least_sets([]), least_sets([], turning=5)), ([], []))

    def test_by_chance(self):
        for seed in range(200):
            workings = chance_workings(seed, seed % 15, places=5)
            for turning in (0, seed % 4):
                wanted = [(place, plain_deficit(workings, place, turning)[0]) for place in range(5)]
                self.assertEqual(least_sets(workings, turning=turning), [pair for pair in wanted if pair[1] > 0])


class LinkTest(Case):
    def test_example(self):
        self.assertEqual([link(WORKINGS), link(WORKINGS, turning=10)], [[(0, 1)], []])

    def test_no_workings(self):
        self.assertEqual((link([]), link([], turning=5)), ([], []))

    def test_ready_at_the_very_moment(self):
        workings = [(0, 1, 0, 10), (1, 0, 12, 20)]
        self.assertEqual([link(workings, turning=turning) for turning in range(4)], [[(0, 1)]] * 3 + [[]])

    def test_the_least_end_goes_on_first(self):
        workings = [(0, 1, 0, 9), (0, 1, 1, 5), (1, 2, 10, 11), (1, 2, 12, 13)]
        self.assertEqual(link(workings), [(0, 3), (1, 2)])

    def test_the_same_end(self):
        workings = [(1, 2, 10, 11), (0, 1, 2, 9), (0, 1, 1, 9), (1, 2, 9, 12)]
        self.assertEqual(link(workings), [(1, 3), (2, 0)])

    def test_the_same_start(self):
        workings = [(1, 2, 9, 11), (0, 1, 1, 8), (1, 3, 9, 10), (0, 1, 1, 7), (1, 0, 9, 12)]
        self.assertEqual(link(workings), [(1, 2), (3, 0)])

    def test_a_set_is_used_once(self):
        self.assertEqual(link([(0, 1, 0, 1), (1, 0, 5, 6), (1, 0, 7, 8)]), [(0, 1)])

    def test_one_that_is_not_ready_does_not_stop_a_later_one(self):
        self.assertEqual(link([(0, 1, 0, 6), (1, 0, 5, 7), (1, 0, 6, 8)]), [(0, 2)])

    def test_to_the_same_place(self):
        self.assertEqual(link([(3, 3, 5, 9), (3, 3, 0, 5), (3, 3, 9, 12)]), [(0, 2), (1, 0)])

    def test_each_place_has_sets_of_its_own(self):
        self.assertEqual(link([(0, 1, 0, 1), (0, 2, 0, 1), (2, 0, 3, 4), (3, 0, 3, 4), (1, 0, 3, 4)]), [(0, 4), (1, 2)])

    def test_by_chance(self):
        linked = 0
        for seed in range(300):
            workings = chance_workings(seed, seed % 16)
            for turning in (0, 1, seed % 5):
                links = link(workings, turning=turning)
                self.assertEqual(links, plain_link(workings, turning))
                self.assertIs(is_linking(workings, links, turning=turning), True)
                wanted = [(place, new_sets(workings, links, place)) for place in range(3)]
                self.assertEqual(least_sets(workings, turning=turning), [pair for pair in wanted if pair[1] > 0])
                linked += len(links)
        self.assertGreater(linked, 1000)

    def test_no_linking_needs_fewer_sets_at_any_place(self):
        tried = 0
        for seed in range(150):
            workings = chance_workings(seed, 5 + seed % 2, places=2 + seed % 2, longest=4, last=12)
            for turning in (0, seed % 3):
                links = link(workings, turning=turning)
                found = all_linkings(workings, turning)
                self.assertIn(links, found)
                for place in range(3):
                    fewest = min(new_sets(workings, some, place) for some in found)
                    self.assertEqual(new_sets(workings, links, place), fewest)
                    self.assertEqual(deficit(workings, place, turning=turning)[0], fewest)
                tried += len(found)
        self.assertGreater(tried, 2000)


class IsLinkingTest(Case):
    def test_true(self):
        for links in ([], [(0, 1)]):
            self.assertIs(is_linking(WORKINGS, links), True)
        self.assertIs(is_linking(WORKINGS, [(0, 1)], turning=5), True)
        self.assertIs(is_linking([], []), True)

    def test_any_order(self):
        workings = [(0, 1, 0, 1), (1, 0, 1, 2), (0, 1, 2, 3)]
        for links in ([(0, 1), (1, 2)], [(1, 2), (0, 1)]):
            self.assertIs(is_linking(workings, links), True)

    def test_too_early(self):
        self.assertIs(is_linking(WORKINGS, [(0, 1)], turning=6), False)
        self.assertIs(is_linking(WORKINGS, [(2, 1)]), False)

    def test_another_place(self):
        self.assertIs(is_linking([(0, 1, 0, 1), (2, 0, 5, 6)], [(0, 1)]), False)
        self.assertIs(is_linking([(0, 1, 0, 1), (0, 1, 5, 6)], [(0, 1)]), False)

    def test_no_workings(self):
        for number in (-1, -3, 3, 4, GREAT, -GREAT):
            self.assertIs(is_linking(WORKINGS, [(number, 1)]), False)
            self.assertIs(is_linking(WORKINGS, [(0, number)]), False)
            self.assertIs(is_linking(WORKINGS, [(0, 1), (number, number)]), False)
            self.assertIs(is_linking([], [(number, number)]), False)

    def test_negative_numbers_do_not_count_from_the_end(self):
        self.assertIs(is_linking([(0, 1, 0, 1), (1, 0, 5, 6)], [(-2, 1)]), False)
        self.assertIs(is_linking([(0, 1, 0, 1), (1, 0, 5, 6)], [(0, -1)]), False)

    def test_a_working_with_itself(self):
        self.assertIs(is_linking([(3, 3, 0, 5)], [(0, 0)]), False)

    def test_a_link_listed_twice(self):
        self.assertIs(is_linking(WORKINGS, [(0, 1), (0, 1)]), False)

    def test_twice_first_or_second(self):
        workings = [(0, 1, 0, 1), (0, 1, 0, 2), (1, 0, 3, 4), (1, 0, 5, 6)]
        self.assertIs(is_linking(workings, [(0, 2), (0, 3)]), False)
        self.assertIs(is_linking(workings, [(0, 2), (1, 2)]), False)
        self.assertIs(is_linking(workings, [(0, 2), (1, 3)]), True)

    def test_a_number_may_be_first_and_second(self):
        workings = [(0, 0, 0, 1), (0, 0, 1, 2), (0, 0, 2, 3)]
        self.assertIs(is_linking(workings, [(0, 1), (1, 2)]), True)

    def test_by_chance(self):
        kinds = {False: 0, True: 0}
        for seed in range(300):
            chance = random.Random(seed)
            workings = chance_workings(seed, 6, places=2)
            turning = seed % 3
            good = all_linkings(workings, turning)
            for _ in range(20):
                links = [(chance.randint(-1, 6), chance.randint(-1, 6)) for _ in range(chance.randint(0, 2))]
                if chance.random() < 0.5:
                    links = chance.choice(good)
                found = is_linking(workings, links, turning=turning)
                self.assertIs(found, sorted(links) in [sorted(some) for some in good])
                kinds[found] += 1
        self.assertGreater(min(kinds.values()), 500)


class BadWorkingTest(Case):
    def test_the_first_one(self):
        for bad in ((0, 4, 5, 5), (0, 4, 5, 4), (0, 4, 10 ** 12, 0)):
            for at in range(4):
                workings = WORKINGS[:at] + [bad] + WORKINGS[at:] + [(1, 1, 7, 7)]
                self.refused(BadWorking, {"index": at}, deficit, workings, 0)
                for call in (least_sets, link):
                    self.refused(BadWorking, {"index": at}, call, workings, turning=3)
                self.refused(BadWorking, {"index": at}, is_linking, workings, [(-1, 99), (-1, 99)])
                self.refused(BadWorking, {"index": at}, is_linking, workings, [])

    def test_an_end_one_greater_is_enough(self):
        self.assertEqual(least_sets([(0, 4, 5, 6)]), [(0, 1)])

    def test_ahead_of_a_place_without_workings(self):
        self.refused(BadWorking, {"index": 0}, deficit, [(1, 1, 7, 7)], 5)


class CopyTest(Case):
    def test_nothing_is_modified_and_all_is_new(self):
        workings, links = list(WORKINGS), [(0, 1)]
        self.assertEqual(deficit(workings=workings, place=0, turning=0), (2, 20))
        least_sets(workings=workings).clear()
        link(workings=workings).clear()
        self.assertTrue(is_linking(workings=workings, links=links, turning=0))
        self.assertEqual((workings, links), (WORKINGS, [(0, 1)]))
        self.assertEqual((least_sets(workings), link(workings)), ([(0, 2)], [(0, 1)]))
        for call in (least_sets, link):
            with self.assertRaises(TypeError):
                call(workings, 3)


class BoundTest(Case):
    def test_a_thousand_workings(self):
        for places in (1, 3, 1000):
            workings = chance_workings(places, 1000, places=places, longest=10 ** 10, last=10 ** 12)
            links = self.quick(link, workings, turning=10 ** 9, seconds=1)
            self.assertTrue(self.quick(is_linking, workings, links, turning=10 ** 9, seconds=1))
            sets = self.quick(least_sets, workings, turning=10 ** 9, seconds=1)
            self.assertEqual(sum(number for _, number in sets), 1000 - len(links))
            place, number = sets[0]
            self.assertEqual(self.quick(deficit, workings, place, turning=10 ** 9, seconds=1)[0], number)

    def test_all_at_once(self):
        workings = [(0, 0, 5, 10 ** 12)] * 1000
        self.assertEqual(self.quick(deficit, workings, 0, seconds=1), (1000, 5))
        self.assertEqual(self.quick(link, workings, seconds=1), [])
        chain = [(0, 0, at, at + 1) for at in range(1000)]
        self.assertEqual(self.quick(link, chain, seconds=1), [(at, at + 1) for at in range(999)])
        self.assertTrue(is_linking(chain, [(at, at + 1) for at in range(999)]))


if __name__ == "__main__":
    unittest.main()
