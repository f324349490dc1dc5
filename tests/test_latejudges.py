"""Judges of things about latecomers: the edges, the order of the faults, the errors and what calls leave alone."""

import unittest

from latecomers.errors import NoClaims, NoMany, Unlike
from latecomers.late import after, entries, last_claims, late_run, level, when_sure
from latecomers.latejudges import from_fault, late_fault, never_fault
from latecomers.listeners import Listener
from latecomers.senders import Sender
from samples import (
    KEEP, NO_INTEGERS, NO_LISTS, adder, anything, check_calls, check_raises, counter, odd_things, pair, shifter, steady, turns)

WHOLE = [[1, 0, 0], [0, 1, 0], [0, 0, 1]]
LEVEL = [[1, 0, 0], [0, 1, 1]]
# Behind the table of two messages it may stand, but state 0 leads out of it.
UNCLOSED = [(0, 0, 0, WHOLE), (1, 0, 0, LEVEL)]
NO_MANIES = [*NO_INTEGERS, -1, 201, 10 ** 60, 2.0, "3", [1]]


def whole_table():
    """The table of the entries of adder and turns."""
    return [(0, 0, 0, [list(row) for row in WHOLE]), (1, 0, 0, [list(row) for row in WHOLE])]


def bad_tables():
    """Return values that are no table with the keys (state, control, other) of adder and turns."""
    good, other = whole_table()
    return [
        *NO_LISTS, (good, other), [list(good), other], [good, list(other)], [(0, 0, WHOLE)], [(0, 0, 0)], [(0, 0, 0, 0, WHOLE)],
        [()], [WHOLE], ["abcd"], [{}], {(0, 0, 0): WHOLE}, [good, good], [good, other, other], [other, good],
        [good, (2, 0, 0, WHOLE)], [good, (0, 1, 0, WHOLE)], [good, (0, 0, 1, WHOLE)], [(0, 0, -1, WHOLE), good],
        [(-1, 0, 0, WHOLE), good], *[[(bad, 0, 0, WHOLE)] for bad in NO_INTEGERS], *[[(0, bad, 0, WHOLE)] for bad in NO_INTEGERS],
        *[[(0, 0, bad, WHOLE)] for bad in NO_INTEGERS], *[[(0, 0, 0, bad)] for bad in NO_LISTS],
        *[[(0, 0, 0, [bad])] for bad in NO_LISTS], *[[(0, 0, 0, [[1, bad, 0]])] for bad in NO_INTEGERS],
        *[[(0, 0, 0, [[bad, 0, 0]])] for bad in NO_INTEGERS],
        [(0, 0, 0, [])], [(0, 0, 0, [[0, 0, 0]])], [(0, 0, 0, [[1, 0]])], [(0, 0, 0, [[1, 0, 0, 0]])], [(0, 0, 0, [(1, 0, 0)])],
        [(0, 0, 0, ([1, 0, 0],))], [(0, 0, 0, [[0, 1, 0]])], [(0, 0, 0, [[0, 1, 0], [1, 0, 0]])], [(0, 0, 0, [[2, 0, 0]])],
        [(0, 0, 0, [[-1, 0, 0]])], [(0, 0, 0, [[1, 1, 0], [0, 1, 0]])], [(0, 0, 0, [[1, 0, 0], [0, 2, 0]])],
        [(0, 0, 0, [[1.0, 0, 0]])], [good, (1, 0, 0, [[0, 1, 1]])], [good, other, None],
    ]


class FromFaultTest(unittest.TestCase):

    def setUp(self):
        self.claims = level(adder(), turns(), [0])
        self.tables = [after(adder(), turns(), many) for many in range(3)]

    def fault(self, thing, k=2, claims=None):
        return from_fault(adder(), turns(), self.claims if claims is None else claims, k, thing)

    def test_what_when_sure_returns_has_no_fault(self):
        for listener, sender, cells in [(adder(), turns(), [0]), (shifter(), steady(), [0, 1, 2]), (shifter(), steady(), [1]),
                                        (pair(), turns(), [])]:
            claims = level(listener, sender, cells)
            word, least, tables = when_sure(listener, sender, claims)
            self.assertEqual(word, "from")
            self.assertIsNone(from_fault(listener, sender, claims, least, tables))
            for k in range(least + 1, 5):
                self.assertEqual(from_fault(listener, sender, claims, k, tables), ("form",))

    def test_with_fewer_tables_with_as_many_and_with_more(self):
        self.assertEqual(self.fault(self.tables[:2]), ("form",))
        self.assertIsNone(self.fault(self.tables))
        self.assertIsNone(self.fault(self.tables + [self.tables[2]]))
        self.assertIsNone(self.fault(self.tables + [self.tables[2]] * 198, 200))
        self.assertEqual(self.fault(self.tables + [self.tables[2]] * 197, 200), ("form",))
        self.assertIsNone(self.fault(self.tables + [self.tables[2]] * 300, 200))
        self.assertIsNone(self.fault(self.tables, 0, {key: [] for key in self.claims}))
        self.assertEqual(self.fault([], 0), ("form",))

    def test_tables_may_be_greater_than_they_need_be(self):
        whole = whole_table()
        self.assertIsNone(self.fault([whole, whole, *self.tables], 4))
        self.assertEqual(self.fault([whole, whole, *self.tables], 3), ("claim", 3))
        self.assertIsNone(self.fault([whole], 0, {key: [[0, 0, 0]] for key in self.claims}))
        # A table without the keys that do not matter is enough, and so is one with keys that no pair meets.
        joining = entries(pair(), turns())
        none = {key: [] for key in level(pair(), turns(), [])}
        everywhere = [(*key, WHOLE) for key in sorted(none)]
        self.assertIsNone(from_fault(pair(), turns(), none, 0, [joining]))
        self.assertIsNone(from_fault(pair(), turns(), none, 0, [everywhere]))

    def test_form(self):
        for bad in bad_tables():
            with self.subTest(bad=bad):
                self.assertEqual(self.fault([bad, *self.tables]), ("form",))
                self.assertEqual(self.fault([*self.tables, bad]), ("form",))
                self.assertEqual(self.fault([bad], 0), ("form",))
        for thing in [*odd_things(), *NO_LISTS, tuple(self.tables), {0: self.tables}, self.tables[0]]:
            with self.subTest(thing=thing):
                self.assertEqual(self.fault(thing), ("form",))

    def test_entries(self):
        whole = whole_table()
        for first in [[], whole[:1], whole[1:], [whole[0], (1, 0, 0, LEVEL)], [(0, 0, 0, [[1, 0, 0], [0, 1, 0]]), whole[1]]]:
            self.assertEqual(self.fault([first, *self.tables]), ("entries",))
            self.assertEqual(self.fault([first], 0), ("entries",))
        self.assertEqual(self.fault([[]], 0), ("entries",))
        self.assertEqual(self.fault([[]] * 5), ("entries",))

    def test_next(self):
        whole, (_, one, two) = whole_table(), self.tables
        self.assertEqual(self.fault([whole, two, two]), ("next", 0))
        self.assertEqual(self.fault([whole, one, two, two, two[:1]]), ("next", 3))
        self.assertEqual(self.fault([whole, one, two, [], two]), ("next", 2))
        self.assertEqual(self.fault([whole, one, []]), ("next", 1))
        self.assertEqual(self.fault([whole, whole, whole, one, two, two[1:], two], 4), ("next", 4))
        # From one table to the next the spaces may grow again.
        self.assertEqual(self.fault([whole, one, two, one, whole], 2), ("claim", 3))

    def test_a_table_that_repeats_is_still_looked_at_where_it_changes(self):
        _, one, two = self.tables
        self.assertEqual(self.fault([*self.tables, two, two, two, [], []]), ("next", 5))
        # The first key shrinks though the table before it came three times.
        self.assertEqual(self.fault([whole_table()] * 3 + [two, two]), ("next", 2))
        self.assertEqual(self.fault([*self.tables, two, two, two, UNCLOSED]), ("closed",))
        self.assertEqual(self.fault([whole_table()] * 3 + [one]), ("claim", 2))

    def test_one_table_over_and_over_is_looked_at_once_at_least(self):
        # At control 2, which no pair of the entries has, the cells are moved out of the space.
        step = [[1, 1, 0], [2, 0, 1]]
        listener = Listener([0], [[(1, step)], [(0, step)], [(2, step)]], [[], [], []])
        table = entries(listener, steady())
        claims = {key: [] for key in level(listener, steady(), [])}
        self.assertIsNone(from_fault(listener, steady(), claims, 0, [table] * 3))
        table = table + [(0, 2, 2, [[1, 0, 0, 0, 0]])]
        self.assertEqual(from_fault(listener, steady(), claims, 0, [table]), ("closed",))
        for many in (2, 3, 9):
            self.assertEqual(from_fault(listener, steady(), claims, 0, [table] * many), ("next", 0))

    def test_closed(self):
        self.assertEqual(self.fault([*self.tables, UNCLOSED]), ("closed",))
        self.assertEqual(self.fault([*self.tables, UNCLOSED], 1, {key: [] for key in self.claims}), ("closed",))
        # The table behind one message is closed, though it is not the last one.
        self.assertEqual(self.fault(self.tables[:2], 1), ("claim", 1))
        self.assertIsNone(self.fault(self.tables[:2], 1, {key: [] for key in self.claims}))
        one_way = Sender([[(0, 1)], [(0, 1)]])
        claims = level(adder(), one_way, [0])
        tables = [[(0, 0, 0, [[1, 0, 0], [0, 0, 1]])], [(1, 0, 0, LEVEL)]]
        self.assertEqual(from_fault(adder(), one_way, claims, 1, tables), ("entries",))
        self.assertIsNone(from_fault(adder(), one_way, claims, 1, [entries(adder(), one_way), [(1, 0, 0, LEVEL)]]))

    def test_the_last_table_need_not_be_closed_if_the_next_were_missing_its_keys(self):
        both = [(0, 0, 0, WHOLE), (1, 0, 0, WHOLE)]
        self.assertEqual(self.fault([both, both, both[:1]]), ("next", 1))
        one_way = Sender([[(0, 1)], [(0, 1)]])
        claims = level(adder(), one_way, [0])
        tables = [entries(adder(), one_way), [(0, 0, 0, WHOLE), (1, 0, 0, LEVEL)], [(1, 0, 0, LEVEL)], [(0, 0, 0, WHOLE)]]
        self.assertEqual(from_fault(adder(), one_way, claims, 1, tables), ("next", 2))
        self.assertEqual(from_fault(adder(), one_way, claims, 1, tables[:2]), ("claim", 1))
        self.assertIsNone(from_fault(adder(), one_way, claims, 2, tables[:3]))

    def test_claim(self):
        self.assertEqual(self.fault(self.tables, 0), ("claim", 0))
        self.assertEqual(self.fault(self.tables, 1), ("claim", 1))
        self.assertIsNone(self.fault(self.tables, 2))
        claims = {(0, 0, 0): [[0, 0, 0], [0, 1, -1]], (1, 0, 0): []}
        self.assertIsNone(self.fault(self.tables, 1, claims))
        self.assertEqual(self.fault(self.tables, 0, claims), ("claim", 0))
        self.assertEqual(self.fault(self.tables, 0, {(0, 0, 0): [], (1, 0, 0): [[0, 1, 0]]}), ("claim", 0))
        self.assertEqual(self.fault(self.tables, 1, {(0, 0, 0): [], (1, 0, 0): [[0, 1, 0]]}), ("claim", 1))
        self.assertEqual(self.fault(self.tables, 2, {(0, 0, 0): [], (1, 0, 0): [[0, 1, 0]]}), ("claim", 2))

    def test_claims_of_keys_that_do_not_occur_do_not_matter(self):
        claims = level(pair(), turns(), [])
        for key in claims:
            if key not in [(0, 1, 1), (1, 1, 1)]:
                claims[key] = [[1, 0, 0]]
        tables = [after(pair(), turns(), many) for many in range(3)]
        self.assertIsNone(from_fault(pair(), turns(), claims, 2, tables))
        self.assertEqual(from_fault(pair(), turns(), claims, 1, tables), ("claim", 1))

    def test_the_first_fault_counts(self):
        whole, (_, one, two) = whole_table(), self.tables
        broken = {key: [[1, 0, 0]] for key in self.claims}
        self.assertEqual(self.fault([[], two, None], 2, broken), ("form",))
        self.assertEqual(self.fault([[], two, one], 2, broken), ("entries",))
        self.assertEqual(self.fault([whole, two, one], 2, broken), ("next", 0))
        self.assertEqual(self.fault([whole, one, two, UNCLOSED], 2, broken), ("closed",))
        self.assertEqual(self.fault([whole, one, two, two], 2, broken), ("claim", 2))

    def test_great_numbers(self):
        great = 10 ** 1999 + 7
        still = Listener([0], [[(0, [[0, 1]])]], [[]])
        thing = [[(0, 0, 0, WHOLE)]]
        self.assertIsNone(from_fault(still, steady(), {(0, 0, 0): [[0, great, 0]] * 0}, 0, thing))
        self.assertEqual(from_fault(still, steady(), {(0, 0, 0): [[0, great, 0]]}, 0, thing), ("claim", 0))
        fed = [[(0, 0, 0, [[1, 0, 0], [0, great, great + 1]])]]
        self.assertEqual(from_fault(still, steady(), {(0, 0, 0): []}, 0, fed), ("entries",))
        self.assertEqual(from_fault(still, steady(), {(0, 0, 0): []}, 0, thing + fed), ("next", 0))


class NeverFaultTest(unittest.TestCase):

    def setUp(self):
        self.claims = level(adder(), anything(), [0])
        self.table = [(0, 0, 0, WHOLE)]

    def fault(self, thing, claims=None):
        return never_fault(adder(), anything(), self.claims if claims is None else claims, thing)

    def test_what_when_sure_returns_has_no_fault(self):
        still = Listener([0], [[(0, [[1, 1]])]], [[]])
        for listener, sender, claims in [
                (adder(), anything(), self.claims), (counter(), steady(), level(counter(), steady(), [])),
                (still, steady(), level(still, steady(), [0])), (adder(), turns(), {(0, 0, 0): [[0, 1, 0]], (1, 0, 0): []})]:
            word, table = when_sure(listener, sender, claims)
            self.assertEqual(word, "never")
            self.assertIsNone(never_fault(listener, sender, claims, table))

    def test_form(self):
        claims = level(adder(), turns(), [0])
        for thing in [*bad_tables(), *odd_things()]:
            if not (isinstance(thing, list) and thing == []):
                with self.subTest(thing=thing):
                    self.assertEqual(never_fault(adder(), turns(), claims, thing), ("form",))

    def test_entries(self):
        self.assertEqual(never_fault(counter(), steady(), level(counter(), steady(), [0]), [
            (0, 2, 0, [[1, 0, 0, 0, 0]])]), ("entries", 0, 2, 0))
        inside = (0, 0, 1, [[1, 0, 0, 0, 0], [0, 1, 2, 0, 0]])
        outside = (0, 1, 0, [[1, 0, 0, 0, 0], [0, 1, 0, 0, 0]])
        self.assertEqual(never_fault(counter(), steady(), level(counter(), steady(), [0]), [inside, outside]),
                         ("entries", 0, 1, 0))
        self.assertEqual(never_fault(counter(), steady(), level(counter(), steady(), [0]), [
            inside, (0, 0, 2, [[1, 0, 1, 0, 0]]), outside]), ("entries", 0, 0, 2))

    def test_fed(self):
        claims = level(adder(), turns(), [0])
        self.assertEqual(never_fault(adder(), turns(), claims, [(0, 0, 0, LEVEL)]), ("fed", 0, 0, 0))
        self.assertEqual(never_fault(adder(), turns(), claims, whole_table()), ("fed", 0, 0, 0))
        self.assertEqual(never_fault(adder(), turns(), claims, [(0, 0, 0, LEVEL), (1, 0, 0, WHOLE)]), ("fed", 1, 0, 0))
        self.assertEqual(never_fault(adder(), turns(), claims, after(adder(), turns(), 1)), ("fed", 1, 0, 0))
        # A key to which no way leads is fed by nothing.
        one_way = Sender([[(0, 1)], [(0, 1)]])
        self.assertEqual(never_fault(adder(), one_way, level(adder(), one_way, [0]), [(0, 0, 0, [[1, 0, 0]])]), ("fed", 0, 0, 0))
        still = Listener([0], [[(0, [[1, 1]])]], [[]])
        self.assertEqual(never_fault(still, steady(), level(still, steady(), [0]), [(0, 0, 0, [[1, 0, 0]])]), ("fed", 0, 0, 0))

    def test_a_table_that_feeds_itself_may_be_small(self):
        still = Listener([0], [[(0, [[0, 1]])]], [[]])
        claims = level(still, steady(), [0])
        self.assertIsNone(never_fault(still, steady(), claims, [(0, 0, 0, [[1, 0, 5]])]))
        self.assertEqual(never_fault(still, steady(), claims, [(0, 0, 0, [[1, 0, 0]])]), ("kept",))
        self.assertEqual(never_fault(still, steady(), claims, [(0, 0, 0, [[1, 1, 1]])]), ("entries", 0, 0, 0))

    def test_carried_integers_feed(self):
        setter = Listener([1], [[(0, [[0, 0, 1]])]], [[]])
        self.assertIsNone(never_fault(setter, steady(), {(0, 0, 0): [[0, 1, 0]]}, [(0, 0, 0, LEVEL)]))
        self.assertEqual(never_fault(setter, steady(), level(setter, steady(), [0]), [(0, 0, 0, LEVEL)]), ("kept",))
        self.assertEqual(never_fault(setter, steady(), level(setter, steady(), [0]), [(0, 0, 0, WHOLE)]), ("fed", 0, 0, 0))

    def test_kept(self):
        self.assertEqual(self.fault([]), ("kept",))
        self.assertEqual(self.fault(self.table, {(0, 0, 0): [[0, 0, 0]] * 7}), ("kept",))
        self.assertEqual(self.fault(self.table, {(0, 0, 0): []}), ("kept",))
        self.assertIsNone(self.fault(self.table))
        self.assertIsNone(self.fault(self.table, {(0, 0, 0): [[0, 0, 0]] * 6 + [[0, 0, 1]]}))
        claims = level(adder(), turns(), [0])
        sure = [(0, 0, 0, LEVEL), (1, 0, 0, LEVEL)]
        self.assertEqual(never_fault(adder(), turns(), claims, sure), ("kept",))
        self.assertIsNone(never_fault(adder(), turns(), {(0, 0, 0): [], (1, 0, 0): [[0, 0, 1]]}, sure))

    def test_the_first_fault_counts(self):
        claims = level(counter(), steady(), [0])
        first = (0, 0, 0, [[1, 0, 0, 0, 0]])
        self.assertEqual(never_fault(counter(), steady(), claims, [first, (0, 2, 2, [[1, 0, 0, 0, 0]])]), ("entries", 0, 2, 2))
        self.assertEqual(never_fault(counter(), steady(), claims, [first, (0, 2, 2, [[2, 0, 0, 0, 0]])]), ("form",))
        self.assertEqual(never_fault(counter(), steady(), claims, [first]), ("fed", 0, 0, 0))

    def test_great_numbers(self):
        great = 10 ** 1999 + 7
        still = Listener([0], [[(0, KEEP)]], [[]])
        thing = [(0, 0, 0, [[1, 0, 0, 0, 0], [0, 0, 0, great, great + 1]])]
        self.assertIsNone(never_fault(still, steady(), level(still, steady(), [0]), thing))
        self.assertEqual(never_fault(still, steady(), {(0, 0, 0): [[0, 0, 0, great + 1, -great]]}, thing), ("kept",))


class LateFaultTest(unittest.TestCase):

    def setUp(self):
        self.claims = level(adder(), turns(), [0])

    def fault(self, thing, many=1, claims=None):
        return late_fault(adder(), turns(), self.claims if claims is None else claims, many, thing)

    def test_what_late_run_returns_has_no_fault(self):
        for listener, sender, claims, manies in [
                (adder(), turns(), self.claims, [0, 1]), (adder(), anything(), level(adder(), anything(), [0]), [0, 1, 7, 200]),
                (counter(), steady(), level(counter(), steady(), []), [0, 3, 200]),
                (shifter(), steady(), level(shifter(), steady(), [0, 2]), [0, 1, 2])]:
            for many in manies:
                found = late_run(listener, sender, claims, many)
                self.assertIsNone(late_fault(listener, sender, claims, many, found))

    def test_without_fault(self):
        self.assertIsNone(self.fault(([], (0, (1,)), []), 0))
        self.assertIsNone(self.fault(([], (0, (1,)), [(1, (5,))])))
        self.assertIsNone(self.fault(([(1, (3,)), (0, (2,))], (0, (1,)), [(1, (5,))])))
        self.assertIsNone(self.fault(([(1, (3,))], (0, (10 ** 60,)), []), 0))

    def test_form(self):
        start, good = (0, (0,)), (1, (5,))
        for thing in [*odd_things(), [[], start, [good]], ([], start), ([], start, [good], []), ([], [0, (0,)], [good]),
                      ([], (0, [0]), [good]), ([], (0, ()), [good]), ([], (0, (0, 0)), [good]), ([], (1, (0,)), [good]),
                      ([], (-1, (0,)), [good]), ([], start, []), ([], start, [good, good]), ([], start, (good,)),
                      ((), start, [good]), ([None], start, [good]), ([good, [1, (5,)]], start, [good]), ([(2, (0,))], start, [good]),
                      (None, start, [good]), ([], None, [good]), ([], start, None), ([], start, [None]), ([], start, [(1, ())]),
                      *[([], (bad, (0,)), [good]) for bad in NO_INTEGERS], *[([], (0, (bad,)), [good]) for bad in NO_INTEGERS],
                      *[([], start, [(bad, (0,))]) for bad in NO_INTEGERS], *[([], start, [(1, (bad,))]) for bad in NO_INTEGERS],
                      *[([(1, (bad,))], start, [good]) for bad in NO_INTEGERS], *[(bad, start, [good]) for bad in NO_LISTS],
                      *[([], start, bad) for bad in NO_LISTS], "abc", ("a", "b", "c")]:
            with self.subTest(thing=thing):
                self.assertEqual(self.fault(thing), ("form",))

    def test_before(self):
        set_it, add = (0, (2,)), (1, (3,))
        for before, index in [([set_it], 0), ([add, add], 1), ([add, set_it, add, add, set_it, set_it], 3)]:
            for messages in ([add], [set_it]):
                self.assertEqual(self.fault((before, (0, (1,)), messages)), ("before", index))
                self.assertEqual(self.fault((before, (0, (1,)), messages), 1, {key: [] for key in self.claims}), ("before", index))

    def test_messages(self):
        set_it, add = (0, (2,)), (1, (3,))
        self.assertEqual(self.fault(([], (0, (1,)), [set_it])), ("messages", 0))
        self.assertEqual(self.fault(([add, set_it], (0, (1,)), [add, set_it, set_it]), 3), ("messages", 2))
        self.assertEqual(self.fault(([add], (0, (1,)), [add])), ("messages", 0))
        self.assertEqual(self.fault(([add, set_it], (0, (1,)), [add, add, add]), 3), ("messages", 1))

    def test_what_is_let_depends_on_the_whole(self):
        # Behind kind 0 either state is possible; only from state 1 kind 1 is emitted.
        forks = Sender([[(0, 0), (0, 1)], [(1, 1)]])
        claims = {key: [[0, 1, -1]] for key in level(adder(), forks, [0])}
        set_it, add = (0, (2,)), (1, (3,))
        self.assertEqual(late_fault(adder(), forks, claims, 1, ([set_it], (0, (9,)), [set_it])), ("kept",))
        self.assertIsNone(late_fault(adder(), forks, claims, 1, ([set_it], (0, (9,)), [add])))
        self.assertEqual(late_fault(adder(), forks, claims, 2, ([set_it], (0, (9,)), [add, set_it])), ("messages", 1))
        self.assertEqual(late_fault(adder(), forks, claims, 1, ([set_it, add, set_it], (0, (9,)), [add])), ("before", 2))

    def test_one_state_at_which_it_ends_is_enough(self):
        forks = Sender([[(0, 0), (0, 1)], [(1, 1)]])
        set_it = (0, (2,))
        for claims, fault in [({(0, 0, 0): [], (1, 0, 0): [[0, 1, 0]]}, None), ({(0, 0, 0): [[0, 0, 1]], (1, 0, 0): []}, None),
                              ({(0, 0, 0): [[0, 1, -1]], (1, 0, 0): [[0, 1, -1], [2, -1, 0]]}, ("kept",))]:
            self.assertEqual(late_fault(adder(), forks, claims, 1, ([], (0, (9,)), [set_it])), fault)

    def test_kept(self):
        self.assertEqual(self.fault(([], (0, (0,)), []), 0), ("kept",))
        self.assertEqual(self.fault(([], (0, (0,)), [(1, (5,))])), ("kept",))
        self.assertEqual(self.fault(([], (0, (7,)), [(1, (5,)), (0, (1,))]), 2), ("kept",))
        self.assertEqual(self.fault(([], (0, (1,)), []), 0, {key: [] for key in self.claims}), ("kept",))
        claims = level(counter(), steady(), [0])
        self.assertEqual(late_fault(counter(), steady(), claims, 0, ([(0, ())], (1, (1, 5)), [])), ("kept",))
        self.assertIsNone(late_fault(counter(), steady(), claims, 0, ([(0, ())], (0, (1, 5)), [])))

    def test_long_things(self):
        add, set_it = (1, (10 ** 59,)), (0, (10 ** 59,))
        messages = [add, set_it] * 100
        self.assertEqual(self.fault((messages[:60], (0, (1,)), messages), 200), ("kept",))
        claims = level(adder(), anything(), [0])
        self.assertIsNone(late_fault(adder(), anything(), claims, 200, ([add] * 60, (0, (1,)), [add] * 200)))


class LateJudgesErrorsTest(unittest.TestCase):

    def test_many(self):
        claims = level(adder(), turns(), [0])
        for many in NO_MANIES:
            with self.subTest(many=many):
                check_raises(self, NoMany, {}, from_fault, adder(), turns(), claims, many, [])
                check_raises(self, NoMany, {}, from_fault, adder(), turns(), claims, many, None)
                check_raises(self, NoMany, {}, late_fault, adder(), turns(), claims, many, ([], (0, (0,)), []))
                check_raises(self, NoMany, {}, late_fault, adder(), turns(), claims, many, None)

    def test_claims(self):
        good = level(adder(), turns(), [0])
        bads = [*NO_LISTS, list(good), [], {(0, 0, 0): []}, {**good, (0, 0, 1): []}, {**good, (2, 0, 0): []}, {**good, None: []},
                {(0, 0, 0): [], (0, 0): []}, {"a": [], "b": []}]
        for forms in [*NO_LISTS, ([0, 0, 0],), [[0, 0, 0]] * 8, [[0, 0]], [[0, 0, 0, 0]], [(0, 0, 0)], [None], ["000"],
                      *[[[0, bad, 0]] for bad in NO_INTEGERS]]:
            bads += [{**good, (0, 0, 0): forms}, {**good, (1, 0, 0): forms}]
        for bad in bads:
            for many in (0, None):
                with self.subTest(bad=bad, many=many):
                    check_raises(self, NoClaims, {}, from_fault, adder(), turns(), bad, many, [])
                    check_raises(self, NoClaims, {}, late_fault, adder(), turns(), bad, many, None)
            check_raises(self, NoClaims, {}, never_fault, adder(), turns(), bad, None)

    def test_seven_forms_are_not_too_many(self):
        claims = {(0, 0, 0): [[0, 0, 0]] * 7, (1, 0, 0): [[0, 0, 0]] * 7}
        self.assertIsNone(from_fault(adder(), turns(), claims, 0, [whole_table()]))
        self.assertEqual(never_fault(adder(), turns(), claims, []), ("kept",))
        self.assertEqual(late_fault(adder(), turns(), claims, 0, ([], (0, (0,)), [])), ("kept",))

    def test_unlike_comes_first(self):
        sender = Sender([[(0, 0), (1, 0)]])
        for function, arguments in [(from_fault, (None, None, None)), (from_fault, ({}, 0, [])), (never_fault, (None, None)),
                                    (late_fault, (None, None, None)), (late_fault, ({}, 0, None))]:
            check_raises(self, Unlike, {}, function, counter(), sender, *arguments)


class LateJudgesLeaveAloneTest(unittest.TestCase):

    def test_arguments_and_answers(self):
        claims = level(adder(), turns(), [0])
        tables = when_sure(adder(), turns(), claims)[2]
        never = last_claims(adder(), turns())
        listener, sender = adder(), turns()
        check_calls(self, [
            (from_fault, listener, sender, claims, 2, tables), (from_fault, listener, sender, claims, 0, tables),
            (from_fault, listener, sender, claims, 1, tables[:2]), (never_fault, listener, sender, never, whole_table()),
            (never_fault, listener, sender, claims, tables[2]), (late_fault, listener, sender, claims, 1, ([], (0, (1,)), [(1, (5,))])),
            (late_fault, listener, sender, claims, 1, ([], (0, (1,)), [(0, (5,))]))])
        self.assertTrue(listener == adder())
        self.assertEqual([sender.ways(state) for state in range(2)], [[(1, 1)], [(0, 0)]])


if __name__ == "__main__":
    unittest.main()
