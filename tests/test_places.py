"""[42] and [43]: visits of a site, who is present, the greatest crowd, and tracks."""

import random
import unittest
from itertools import combinations

from railhouse.drives import is_driving
from railhouse.errors import BadDriving, NoBlock, NotAlive
from railhouse.layout import Layout
from railhouse.places import crowd, fits_tracks, present, tracks, visits
from railhouse.plans import Plan
from railhouse.rings import run_out, standstill
from railhouse.trains import Train, releases
from tests.plain_plans import ALIVE, CHAIN, DEAD, EMPTY, IDLE, RING_OF_TURNS, SHUTTLE, TRAINS, busy_plan, busy_plans
from tests.plain_plans import great_plan, picture, plain_afters, plain_moments
from tests.support import GREAT, Case, no_blocks


def plain_visits(plan, blocks):
    found = []
    for number in range(plan.size):
        train = plan.train_of(number)
        steps = [step for step, block in enumerate(train.blocks()) if block in blocks]
        if steps:
            found.append((number, 2 * min(steps), releases(plan.layout, train)[max(steps)]))
    return found


def plain_crowd(plan, blocks):
    """Return the greatest number of trains that are at the site at any moment of any driving."""
    found = plain_visits(plan, blocks)
    return max(sum(entry < done[train] <= release for train, entry, release in found) for done in plain_moments(plan))


def plain_tracks(plan, blocks):
    """Return the least number of lists, by trying every division of the visits."""
    found, afters = plain_visits(plan, blocks), plain_afters(plan)
    follows = {(a, b): (b[0], b[1]) in afters[(a[0], a[2])] for a in found for b in found}
    best = len(found)
    divisions = [[]]
    for visit in sorted(found, key=lambda a: sum(follows[(b, a)] for b in found)):
        longer = []
        for lists in divisions:
            longer.append(lists + [[visit]])
            for at, row in enumerate(lists):
                if follows[(row[-1], visit)]:
                    longer.append(lists[:at] + [row + [visit]] + lists[at + 1:])
        divisions = longer
    return min([best] + [len(lists) for lists in divisions])


def sites(plan, seed):
    """Return some sites by chance: of no block, of one, of all, and of some."""
    chance, blocks = random.Random(seed), range(plan.layout.size)
    some = [chance.sample(blocks, chance.randint(1, len(blocks))) for _ in range(3)]
    return [[], list(blocks)] + [[block] for block in blocks] + some


class VisitsTest(Case):
    def test_sites(self):
        self.assertEqual(visits(ALIVE, [2]), [(0, 4, 7), (1, 4, 7)])
        self.assertEqual(visits(ALIVE, [1]), [(0, 2, 7), (1, 6, 9)])
        self.assertEqual(visits(ALIVE, [0]), [(0, 0, 3), (1, 8, 10)])

    def test_no_block_and_one_block_twice(self):
        self.assertEqual(visits(ALIVE, []), [])
        self.assertEqual(visits(ALIVE, [2, 2, 2]), [(0, 4, 7), (1, 4, 7)])

    def test_a_visit_lasts_while_the_train_is_elsewhere(self):
        self.assertEqual(visits(ALIVE, [4, 0]), [(0, 0, 10), (1, 0, 10)])
        self.assertEqual(visits(ALIVE, [3, 1]), [(0, 2, 9), (1, 2, 9)])

    def test_trains_that_do_not_visit(self):
        plan = Plan(CHAIN, [TRAINS[0], Train([0]), Train([4, 3])], [[], [0], [], [0, 2], []])
        self.assertEqual(visits(plan, [0]), [(0, 0, 3), (1, 0, 2)])
        self.assertEqual(visits(plan, [3, 4]), [(0, 6, 10), (2, 0, 4)])
        self.assertEqual(visits(plan, [1, 2]), [(0, 2, 7)])
        self.assertEqual(visits(IDLE, [0, 1, 2, 3, 4]), [])
        self.assertEqual(visits(EMPTY, []), [])

    def test_a_dead_plan(self):
        self.assertEqual(visits(DEAD, [2]), visits(ALIVE, [2]))

    def test_by_chance(self):
        for plan in busy_plans(30):
            for blocks in sites(plan, plan.total):
                self.assertEqual(visits(plan, blocks), plain_visits(plan, blocks))

    def test_no_block(self):
        for block in no_blocks(5):
            for call, rest in ((visits, ()), (present, ([9],)), (crowd, ()), (tracks, ()), (fits_tracks, ([[9]],))):
                for plan in (ALIVE, DEAD):
                    self.refused(NoBlock, {"block": block}, call, plan, [0, block, 99], *rest)
        self.refused(NoBlock, {"block": 0}, visits, EMPTY, [0])


class PresentTest(Case):
    def test_while_the_visit_lasts(self):
        for many in range(12):
            self.assertEqual(present(ALIVE, [2], [0] * many), [0] if 5 <= many <= 7 else [])
            self.assertEqual(present(ALIVE, [0, 4], [0] * many), [0] if 1 <= many <= 10 else [])

    def test_several(self):
        self.assertEqual(present(ALIVE, [0, 4], [1, 0]), [0, 1])
        self.assertEqual(present(ALIVE, [0], [1, 0]), [0])
        self.assertEqual(present(ALIVE, [4], [1, 0]), [1])
        self.assertEqual(present(ALIVE, [4, 4], []), [])
        self.assertEqual(present(ALIVE, [], [1, 0]), [])
        self.assertEqual(present(DEAD, [2], run_out(DEAD)), [0, 1])
        self.assertEqual(present(EMPTY, [], []), [])

    def test_bad_driving(self):
        for bad in no_blocks(2):
            self.refused(BadDriving, {"at": 0}, present, ALIVE, [0], [bad, 7])
            self.refused(BadDriving, {"at": 2}, present, ALIVE, [0], [0, 1, bad, 0])
        self.refused(BadDriving, {"at": 11}, present, ALIVE, [0], [0] * 13)
        self.refused(BadDriving, {"at": 3}, present, ALIVE, [0], [0, 1, 1, 1, 9])
        self.refused(BadDriving, {"at": 12}, present, DEAD, [], run_out(DEAD) + [1, 5])
        self.refused(BadDriving, {"at": 0}, present, SHUTTLE, [], [1])
        self.refused(BadDriving, {"at": 0}, present, EMPTY, [], [0])

    def test_no_block_stands_before_bad_driving(self):
        self.refused(NoBlock, {"block": 5}, present, ALIVE, [5], [7])

    def test_by_chance(self):
        for plan in busy_plans(20):
            driving = run_out(plan)
            for blocks in sites(plan, plan.total):
                for many in range(len(driving) + 1):
                    done = [driving[:many].count(train) for train in range(plan.size)]
                    at_site = [train for train, entry, release in plain_visits(plan, blocks)
                               if entry < done[train] <= release]
                    self.assertEqual(present(plan, blocks, driving[:many]), at_site)


class CrowdTest(Case):
    def test_one_at_a_time(self):
        trains, driving = crowd(ALIVE, [1])
        self.assertEqual(len(trains), 1)
        self.assertEqual(present(ALIVE, [1], driving), trains)

    def test_two(self):
        trains, driving = crowd(ALIVE, [0, 4])
        self.assertEqual(trains, [0, 1])
        self.assertEqual(present(ALIVE, [0, 4], driving), [0, 1])

    def test_without_visits(self):
        for plan, blocks in ((ALIVE, []), (IDLE, [0, 1]), (EMPTY, []),
                             (Plan(CHAIN, [Train([0])], [[]] * 5), [1, 2, 3, 4])):
            self.assertEqual(crowd(plan, blocks), ([], []))
            self.assertEqual(tracks(plan, blocks), [])
            self.assertIs(fits_tracks(plan, blocks, []), True)

    def test_a_block_that_is_listed_twice(self):
        self.assertEqual(len(crowd(ALIVE, [1, 1, 1])[0]), 1)
        self.assertEqual(len(tracks(ALIVE, [1, 1, 1])), 1)
        self.assertIs(fits_tracks(ALIVE, [1, 1, 1], [[0, 1]]), True)

    def test_a_train_that_comes_again_while_its_visit_lasts(self):
        # Each train is at the site from its first section to its last one, whichever yard it is in.
        plan = Plan(CHAIN, [TRAINS[0], TRAINS[0]], [[], [0, 1], [], [0, 1], []])
        self.assertEqual(len(crowd(plan, [1, 3])[0]), 2)
        self.assertEqual(sorted(tracks(plan, [1, 3])), [[0], [1]])
        self.assertIs(fits_tracks(plan, [1, 3], [[0, 1]]), False)
        self.assertEqual(tracks(plan, [1]), [[0, 1]])

    def test_a_yard_full_of_trains(self):
        plan = Plan(CHAIN, [Train([2])] * 5, [[]] * 5)
        self.assertEqual(crowd(plan, [2]), ([0, 1, 2, 3, 4], [0, 1, 2, 3, 4]))
        self.assertEqual(tracks(plan, [2]), [[0], [1], [2], [3], [4]])

    def test_against_a_search_of_all_moments(self):
        sizes = {}
        plans = busy_plans(40, alive=True) + busy_plans(6, alive=True, many=4) + busy_plans(12, alive=True, size=6)
        for plan in plans:
            for blocks in sites(plan, plan.total):
                trains, driving = crowd(plan, blocks)
                most = plain_crowd(plan, blocks)
                self.assertEqual((len(trains), trains), (most, sorted(set(trains))))
                self.assertTrue(is_driving(plan, driving))
                self.assertEqual([train for train in present(plan, blocks, driving) if train in trains], trains)
                lists = tracks(plan, blocks)
                self.assertEqual(len(lists), plain_tracks(plan, blocks))
                self.assertEqual(len(lists), most)
                self.assertEqual(lists, sorted(lists))
                self.check_lists(plan, blocks, lists)
                key = (most, len(plain_visits(plan, blocks)))
                sizes[key] = sizes.get(key, 0) + 1
        for key in ((1, 2), (1, 3), (2, 3), (2, 2), (2, 4)):
            self.assertGreater(sizes.get(key, 0), 3, sizes)

    def check_lists(self, plan, blocks, lists):
        found, afters = {visit[0]: visit for visit in plain_visits(plan, blocks)}, plain_afters(plan)
        self.assertEqual(sorted(train for row in lists for train in row), sorted(found))
        for row in lists:
            for left, right in zip(row, row[1:]):
                self.assertIn((right, found[right][1]), afters[(left, found[left][2])])

    def test_not_alive(self):
        for call, rest in ((crowd, ()), (tracks, ()), (fits_tracks, ([],))):
            self.refused(NotAlive, {"ring": [0, 1]}, call, DEAD, [2], *rest)
            self.refused(NotAlive, {"ring": [0, 1]}, call, DEAD, [], *rest)
            self.refused(NotAlive, {"ring": [0, 1]}, call, RING_OF_TURNS, [], *rest)
            for plan in busy_plans(5, alive=False):
                self.refused(NotAlive, {"ring": standstill(plan)[2]}, call, plan, [0], *rest)
            with self.assertRaises(NotAlive) as caught:
                call(DEAD, [2], *rest)
            caught.exception.ring.clear()
            self.refused(NotAlive, {"ring": [0, 1]}, call, DEAD, [2], *rest)


class TracksTest(Case):
    def test_example(self):
        self.assertEqual(tracks(ALIVE, [2]), [[0, 1]])

    def test_lists_that_must_be_chosen_anew(self):
        # Visits of one after another: 0 and 1 stand first, 2 follows both of them, 3 follows 0 alone.
        layout = Layout([1] * 6, [(0, 2), (1, 2), (0, 3)], yards=[4])
        trains = [Train([0]), Train([1]), Train([0, 2]), Train([1])]
        plan = Plan(layout, trains, [[0, 2], [1, 3], [2], [], [], []])
        self.assertEqual(len(tracks(plan, [0, 1, 2])), 2)
        self.assertIs(fits_tracks(plan, [0, 1, 2], [[0, 2], [1, 3]]), True)
        self.assertIs(fits_tracks(plan, [0, 1, 2], [[0, 3], [1, 2]]), False)

    def test_a_thing_that_is_first_taken_away(self):
        for seed in range(400):
            plan = busy_plan(seed, 5, 3)
            if standstill(plan) is None:
                for block in range(3):
                    self.assertEqual(len(tracks(plan, [block])), len(crowd(plan, [block])[0]))
                    self.assertEqual(len(tracks(plan, [block])), plain_tracks(plan, [block]))

    def test_trains_in_the_order_in_which_they_follow(self):
        plan = Plan(CHAIN, [Train([1])] * 4, [[], [2, 0, 3, 1], [], [], []])
        self.assertEqual(tracks(plan, [1]), [[2, 0, 3, 1]])
        self.assertIs(fits_tracks(plan, [1], [[2, 0, 3, 1]]), True)
        self.assertIs(fits_tracks(plan, [1], [[0, 1, 2, 3]]), False)


class FitsTracksTest(Case):
    def setUp(self):
        self.plan = Plan(CHAIN, [Train([1])] * 3 + [Train([0])], [[], [0, 1, 2], [], [], []])

    def test_lists_that_fit(self):
        for lists in ([[0, 1, 2]], [[0], [1], [2]], [[2], [0, 1]], [[0, 2], [1]], [[1], [0, 2]], [[], [0, 1, 2], []],
                      [[]] * 50 + [[1, 2]] + [[0]]):
            self.assertIs(fits_tracks(self.plan, [1], lists), True)
        self.assertIs(fits_tracks(self.plan, [0], [[3]]), True)
        self.assertIs(fits_tracks(self.plan, [2], [[], []]), True)

    def test_a_train_that_is_missing_or_stands_twice(self):
        for lists in ([], [[]], [[0, 1]], [[0], [2]], [[0, 1, 2], [0]], [[0, 0, 1, 2]], [[0, 1], [1, 2]], [[0, 1, 1, 2]]):
            self.assertIs(fits_tracks(self.plan, [1], lists), False)

    def test_another_number(self):
        for bad in [3] + no_blocks(4):
            self.assertIs(fits_tracks(self.plan, [1], [[0, 1, 2], [bad]]), False)
            self.assertIs(fits_tracks(self.plan, [1], [[0, 1, 2, bad]]), False)
            self.assertIs(fits_tracks(self.plan, [1], [[bad, 1, 2]]), False)
        self.assertIs(fits_tracks(self.plan, [], [[0]]), False)
        self.assertIs(fits_tracks(self.plan, [1], [[GREAT]]), False)

    def test_visits_that_do_not_follow(self):
        for lists in ([[1, 0, 2]], [[2, 1, 0]], [[0, 2, 1]], [[1, 0], [2]], [[0], [2, 1]]):
            self.assertIs(fits_tracks(self.plan, [1], lists), False)
        both = Plan(CHAIN, [Train([2]), Train([2])], [[]] * 5)
        self.assertIs(fits_tracks(both, [2], [[0, 1]]), False)
        self.assertIs(fits_tracks(both, [2], [[0], [1]]), True)

    def test_by_chance(self):
        right = 0
        for plan in busy_plans(40, alive=True):
            chance, afters = random.Random(plan.total), plain_afters(plan)
            for blocks in sites(plan, plan.total):
                found = {visit[0]: visit for visit in plain_visits(plan, blocks)}
                trains = list(found)
                chance.shuffle(trains)
                cut = chance.randint(0, len(trains))
                lists = [trains[:cut], trains[cut:]]
                pairs = [pair for row in lists for pair in zip(row, row[1:])]
                fits = all((b, found[b][1]) in afters[(a, found[a][2])] for a, b in pairs)
                self.assertIs(fits_tracks(plan, blocks, lists), fits)
                right += fits
        self.assertTrue(100 < right < 300, right)


class CopyTest(Case):
    def test_by_name_and_new(self):
        before = picture(ALIVE)
        blocks, lists, driving = [0, 4, 0], [[1], [0]], [0, 1]
        visits(plan=ALIVE, blocks=blocks).clear()
        present(plan=ALIVE, blocks=blocks, driving=driving).clear()
        trains, made = crowd(plan=ALIVE, blocks=blocks)
        trains.clear()
        made.clear()
        rows = tracks(plan=ALIVE, blocks=blocks)
        rows[0].clear()
        rows.clear()
        self.assertIs(fits_tracks(plan=ALIVE, blocks=blocks, lists=lists), True)
        self.assertEqual((blocks, lists, driving), ([0, 4, 0], [[1], [0]], [0, 1]))
        self.assertEqual((crowd(ALIVE, blocks)[0], tracks(ALIVE, blocks)), ([0, 1], [[0], [1]]))
        self.assertEqual(picture(ALIVE), before)


class BoundTest(Case):
    def test_twelve_trains(self):
        plan, site = great_plan(), (list(range(60)) * 17)[:1000]
        self.assertEqual(len(self.quick(visits, plan, site, seconds=1)), 12)
        self.assertEqual(self.quick(present, plan, site, run_out(plan), seconds=1), [])
        trains, driving = self.quick(crowd, plan, site, seconds=2)
        lists = self.quick(tracks, plan, site, seconds=2)
        self.assertEqual(len(lists), len(trains))
        self.assertEqual(self.quick(present, plan, site, driving, seconds=1), trains)
        self.assertTrue(self.quick(fits_tracks, plan, site, lists + [[]] * 900, seconds=2))
        self.assertFalse(self.quick(fits_tracks, plan, site, [list(range(12))] * 1000, seconds=2))
        self.assertFalse(self.quick(fits_tracks, plan, site, [list(range(1000))] * 1000, seconds=5))

    def test_many_tracks(self):
        layout = Layout([1, 1, 1], [(0, 1), (1, 2)], yards=[0, 2])
        for many in (11, 12):
            plan = Plan(layout, [Train([0, 1, 2][::(-1) ** at]) for at in range(many)], [[], list(range(many)), []])
            for blocks in [list(site) for number in range(4) for site in combinations(range(3), number)]:
                self.assertEqual(len(self.quick(tracks, plan, blocks, seconds=1)),
                                 len(self.quick(crowd, plan, blocks, seconds=1)[0]))


if __name__ == "__main__":
    unittest.main()
