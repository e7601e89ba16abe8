"""The interface: every name stands in its file, with its arguments; its examples give what they show."""

import importlib
import inspect
import unittest

from railhouse.chains import chain
from railhouse.clock import Clock, critical
from railhouse.counting import all_tables, count_tables
from railhouse.desk import Desk
from railhouse.duels import two_ring
from railhouse.errors import BadText, BadWay, CrowdedEnd, NeverAtOnce, NotAlive
from railhouse.exchanges import exchange, mending, needed
from railhouse.layout import Layout
from railhouse.line import Line
from railhouse.notation import format_layout, parse_layout
from railhouse.notes import format_deeds
from railhouse.panel import Panel
from railhouse.places import tracks
from railhouse.plans import Plan
from railhouse.rings import standstill
from railhouse.routes import RouteTable
from railhouse.settings import setting
from railhouse.sides import side_by_side
from railhouse.spans import Span
from railhouse.stock import deficit, link
from railhouse.tables import first_fault
from railhouse.together import at_once
from railhouse.trains import Train, releases
from railhouse.ways import distances, heading, least_way
from tests.support import Case

FUNCTIONS = {
    "ways": [
        "heading(layout, way)", "way_length(layout, way)", "distances(layout, start)",
        "least_way(layout, start, goal)", "count_ways(layout, start, goal)", "each_way(layout, start, goal)",
    ],
    "sides": [
        "side_by_side(layout, starts, goals)", "is_cut(layout, starts, goals, closed)", "are_apart(ways)",
    ],
    "routes": [
        "joint_demands(layout, before, after)", "flank_demands(layout, before, after, on_way)",
    ],
    "settings": [
        "can_set(table, routes)", "setting(table, routes)", "blockers(table, routes, route)",
        "greatest_setting(table, routes)", "count_settings(table, routes)", "phases(table, routes)",
    ],
    "deeds": ["perform(panel, deeds)", "replay(layout, deeds, *, flank=True)"],
    "trains": ["releases(layout, train)"],
    "plans": ["orders_by_time(layout, trains, times)"],
    "rings": ["run_out(plan)", "is_alive(plan)", "standstill(plan)"],
    "chains": ["chain(plan, first, second)", "comes_before(plan, first, second)", "is_chain(plan, events)"],
    "exchanges": [
        "exchange(plan, block, place)", "barring_chain(plan, block, place)", "mending(plan)", "needed(plan)",
    ],
    "drives": ["is_driving(plan, driving)"],
    "together": ["at_once(plan, stays)"],
    "places": [
        "visits(plan, blocks)", "present(plan, blocks, driving)", "crowd(plan, blocks)", "tracks(plan, blocks)",
        "fits_tracks(plan, blocks, lists)",
    ],
    "passing": ["panel_deeds(plan, train, number)", "guarded_step(drive, panel, train)"],
    "clock": ["timed_driving(clock, *, late=False)", "critical(clock, event, *, late=False)"],
    "promises": [
        "broken(clock, promises, *, late=True)", "greatest_lateness(clock, promises, *, late=True)",
        "latest_times(clock, promises, *, late=True)", "harmless(clock, promises, train, step)",
    ],
    "delays": ["worst(clock, event, count)", "reach(clock, train, step, amount)"],
    "tables": [
        "first_fault(line, table)", "line_orders(line, table)", "line_plan(line, table)", "table_of(line, plan)",
    ],
    "counting": ["count_tables(line)", "all_tables(line)"],
    "duels": ["two_ring(plan)"],
    "choices": [
        "keeping_tables(line, runs, dwells, promises, *, starts=(), clearing=0)",
        "best_table(line, runs, dwells, promises, *, starts=(), clearing=0)",
    ],
    "stock": [
        "deficit(workings, place, *, turning=0)", "least_sets(workings, *, turning=0)", "link(workings, *, turning=0)",
        "is_linking(workings, links, *, turning=0)",
    ],
    "turning": ["clock_workings(clock)", "clock_turns(clock)", "with_turns(plan, turns)"],
    "effects": ["exchange_effects(clock, promises, *, late=False)", "best_exchange(clock, promises, *, late=False)"],
    "notation": ["format_layout(layout)", "format_plan(plan)", "parse_layout(text)", "parse_plan(text)"],
    "notes": ["format_deeds(deeds)", "parse_deeds(text)"],
    "journals": ["replay_desk(clock, deeds)", "attempt(desk, deeds)"],
}
CLASSES = {
    "layout.Layout": [
        "__init__(self, lengths, joints, *, yards=())", "__eq__(self, other)", "__contains__(self, block)",
        "length_of(self, block)", "is_yard(self, block)", "east_of(self, block)", "west_of(self, block)",
        "branches(self, block, side)", "joined(self, west, east)", "joints(self)", "points(self)",
    ],
    "routes.RouteTable": [
        "__init__(self, layout, ways, *, flank=True)", "route_way(self, route)", "claims(self, route)",
        "demands(self, route)", "clash(self, first, second)",
    ],
    "panel.Panel": [
        "__init__(self, layout, *, flank=True)", "place(self, train, block, heading)", "request(self, train, blocks)",
        "advance(self, train)", "release(self, train)", "cancel(self, train)", "withdraw(self, train)", "undo(self)",
        "journal(self)", "trains(self)", "holders(self, block)", "heading(self, train)", "occupied(self, train)",
        "ahead(self, train)", "requests(self, train)", "locks(self)", "state(self)",
    ],
    "trains.Train": ["__init__(self, way, *, length=1)", "blocks(self)", "step_of(self, block)"],
    "plans.Plan": [
        "__init__(self, layout, trains, orders, *, turns=())", "train_of(self, number)", "order(self, block)",
        "turns(self)", "stay(self, train, step)", "befores(self, event)", "afters(self, event)",
    ],
    "drives.Drive": [
        "__init__(self, plan)", "__iter__(self)", "step(self, train)", "back(self)", "run(self)", "done(self, train)",
        "may_step(self)", "held(self, train)", "holders(self, block)",
    ],
    "spans.Span": [
        "__init__(self, low, high)", "__contains__(self, x)", "__add__(self, other)", "__or__(self, other)",
        "__and__(self, other)", "__eq__(self, other)",
    ],
    "clock.Clock": [
        "__init__(self, plan, runs, dwells, *, starts=(), clearing=0, turning=0)", "times(self, *, late=False)",
        "times_with(self, choice)", "span(self, train, number)", "run_span(self, train, step)", "over(self, plan)",
        "gap(self, first, second, *, late=False)",
    ],
    "line.Line": [
        "__init__(self, yards, sections, east, west)", "trains(self)", "can_meet(self, east, west, yard)",
    ],
    "desk.Desk": [
        "__init__(self, clock)", "step(self, train)", "delay(self, train, step, amount)", "exchange(self, block, place)",
        "undo(self)", "journal(self)", "run(self)", "done(self, train)", "may_step(self)", "holders(self, block)",
        "times(self)", "forecast(self)", "lateness(self, promises)", "state(self)",
    ],
}
PROPERTIES = {"drives.Drive": ["finished"], "spans.Span": ["width"], "desk.Desk": ["finished", "present"]}


class NameTest(Case):
    def test_functions(self):
        for module, texts in FUNCTIONS.items():
            for text in texts:
                name = text.partition("(")[0]
                value = getattr(importlib.import_module(f"railhouse.{module}"), name)
                self.assertEqual(name + str(inspect.signature(value)), text)
                self.assertEqual(value.__module__, f"railhouse.{module}")

    def test_methods_stand_in_the_body_of_their_class(self):
        for path, texts in CLASSES.items():
            module, name = path.split(".")
            value = getattr(importlib.import_module(f"railhouse.{module}"), name)
            self.assertEqual(value.__module__, f"railhouse.{module}")
            for text in texts:
                method = vars(value)[text.partition("(")[0]]
                self.assertEqual(method.__name__ + str(inspect.signature(method)), text)

    def test_properties_stand_in_the_body_of_their_class(self):
        for path, words in PROPERTIES.items():
            module, name = path.split(".")
            value = getattr(importlib.import_module(f"railhouse.{module}"), name)
            for word in words:
                self.assertIsInstance(vars(value)[word], property)


class ExampleTest(Case):
    def setUp(self):
        self.diamond = Layout([40, 30, 30, 50], [(0, 1), (0, 2), (1, 3), (2, 3)])
        self.fork = Layout([40, 40, 60, 60], [(0, 2), (0, 3), (1, 3)])
        self.table = RouteTable(self.fork, [[1, 3], [0, 3], [0, 2]])
        joints = [(0, 1), (1, 2), (2, 3), (3, 4)]
        self.line = Layout([200, 100, 50, 100, 200], joints, yards=[0, 2, 4])
        self.trains = [Train([0, 1, 2, 3, 4], length=70), Train([4, 3, 2, 1, 0], length=60)]
        self.dead = Plan(self.line, self.trains, [[], [0, 1], [], [1, 0], []])
        self.plan = Plan(self.line, self.trains, [[], [0, 1], [], [0, 1], []])

    def test_layout(self):
        self.assertEqual(self.diamond.points(), [(0, "east"), (3, "west")])
        self.refused(CrowdedEnd, {"block": 0, "side": "east"}, Layout, [5, 5, 5, 5], [(0, 1), (0, 2), (0, 3)])

    def test_ways(self):
        self.refused(BadWay, {"at": 1}, heading, self.diamond, [0, 1, 2])
        self.assertEqual(least_way(self.diamond, 0, 3), [0, 1, 3])
        self.assertEqual(distances(self.diamond, 0), [40, 70, 70, 120])

    def test_sides(self):
        self.assertEqual(side_by_side(self.diamond, [1, 2], [1, 2]), ([[1], [2]], [1, 2]))

    def test_routes(self):
        self.assertEqual(self.table.demands(0), [(0, "east", 2), (3, "west", 1)])
        self.assertEqual(self.table.clash(0, 1), ("block", 3, ""))
        self.assertIsNone(self.table.clash(0, 2))

    def test_settings(self):
        self.assertEqual(setting(self.table, [2, 0]), ([(0, "east", 2), (3, "west", 1)], [(2, 2), (3, 0)]))

    def test_panel(self):
        panel = Panel(self.fork)
        panel.place(7, 1, "east")
        panel.request(7, [3])
        self.assertEqual(panel.state(), ([(7, "east", (1,), (3,), (1,))], [(0, "east", 2), (3, "west", 1)]))

    def test_trains(self):
        found = [releases(self.line, Train([0, 1, 2, 3, 4], length=length)) for length in (40, 70)]
        self.assertEqual(found, [[3, 5, 7, 9, 10], [3, 7, 7, 9, 10]])

    def test_rings(self):
        self.assertEqual(standstill(self.dead), ([6, 6], [(0, 1, 3), (1, 0, 1)], [0, 1]))

    def test_chains(self):
        self.assertEqual(chain(self.plan, (0, 5), (1, 6)), [(0, 5), (0, 6), (0, 7), (1, 6)])

    def test_exchanges(self):
        self.assertEqual([mending(self.dead), needed(exchange(self.dead, 3, 0))], [[(1, 0), (3, 0)], [(3, 0)]])

    def test_together(self):
        self.assertEqual(at_once(self.plan, [(0, 2), (1, 0)]), [0, 0, 0, 0, 0, 1])
        self.refused(NeverAtOnce, {"first": (0, 1), "second": (1, 3)}, at_once, self.plan, [(1, 3), (0, 1)])

    def test_places(self):
        self.assertEqual(tracks(self.plan, [2]), [[0, 1]])

    def test_clock(self):
        runs = [[Span(5, 6)] * 5, [Span(5, 6)] * 5]
        clock = Clock(self.plan, runs, [[1] * 5, [1] * 5], clearing=2)
        self.assertEqual(clock.times(), [[0, 5, 6, 11, 12, 17, 18, 23, 24, 29, 30],
                                         [0, 5, 31, 36, 37, 42, 43, 48, 49, 54, 55]])
        self.assertEqual(critical(clock, (1, 3))[8:], [(0, 8), (0, 9), (1, 2), (1, 3)])

    def test_tables(self):
        self.assertEqual(first_fault(Line([200, 50, 200], [100, 100], [70], [60]), [[1]]), ("fit", 0, 0))

    def test_counting(self):
        self.assertEqual(count_tables(Line([9, 9, 9], [5, 5], [1, 1], [1])), 6)
        self.assertEqual(all_tables(Line([9, 9, 9], [5, 5], [1], [1])), [[[0]], [[1]], [[2]]])

    def test_duels(self):
        self.assertEqual(two_ring(self.dead), (0, 1, 1, 3))

    def test_stock(self):
        workings = [(0, 4, 0, 30), (4, 0, 35, 60), (0, 4, 20, 50)]
        self.assertEqual([deficit(workings, 0), deficit(workings, 4), deficit(workings, 4, turning=10)],
                         [(2, 20), (0, None), (1, 35)])
        self.assertEqual([link(workings), link(workings, turning=10)], [[(0, 1)], []])

    def test_notation(self):
        self.assertEqual(format_layout(Layout([5, 7], [(0, 1)], yards=[1])), "layout 2\nplain 5\nyard 7\njoint 0 1\n")
        self.refused(BadText, {"line": 2}, parse_layout, "layout 1\nplain 05\n")

    def test_notes(self):
        self.assertEqual(format_deeds([("step", 1), ("request", 3, (4, 5))]), "step 1\nrequest 3 4 5\n")

    def test_desk(self):
        clock = Clock(self.plan, [[Span(5, 6)] * 5, [Span(5, 6)] * 5], [[1] * 5, [1] * 5], clearing=2)
        desk = Desk(clock)
        desk.step(0)
        desk.delay(0, 0, 1)
        self.assertEqual([desk.step(0), desk.times()], [6, [[0, 6], []]])
        self.refused(NotAlive, {"ring": [0, 1]}, Desk(clock).exchange, 1, 0)

    def test_attributes(self):
        clock = Clock(self.plan, [[Span(5, 6)] * 5] * 2, [[1] * 5] * 2)
        line = Line([9, 9], [5], [1], [1])
        for value, words in ((self.line, "size"), (self.table, "size"), (self.trains[0], "length steps last"),
                             (self.plan, "layout size total"), (Span(1, 2), "low high"),
                             (clock, "plan clearing turning"), (line, "layout sections eastbound westbound")):
            for word in words.split():
                self.assertIn(word, vars(value))


if __name__ == "__main__":
    unittest.main()
