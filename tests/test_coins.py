"""Coin machines, and the best ones for given parts (20, 21, 22)."""

import random
import unittest
from fractions import Fraction

from alikechances.coins import (
    coin_best,
    coin_cost,
    coin_holds,
    coin_machine,
    coin_shares,
    coins_least,
    row_machine,
    toss,
)
from alikechances.errors import (
    BadCoins,
    BadCount,
    BadParts,
    BadProgram,
    BadState,
    HasChoices,
    TooMany,
)
from alikechances.programs import states_of
from tests import reference
from tests.helpers import (
    CHOICE,
    COIN,
    LOOP,
    OTHERS,
    SKIP,
    TRUE,
    X,
    X_IS_0,
    as_none,
    as_truth,
    changed,
    frozen,
    nested,
    other_sequence,
    program,
    seq,
)

N = (0, 1)
H = (1, 2)
THIRDS = ((1, 3), (2, 3))
FLIPS = ((("out", 1), 1), (("out", 0), 0))
ONCE = ((("out", 0), ("out", 1)),)
# 0 to an outcome or 1, 1 to 2 or to an outcome, 2 tosses for ever; 3 is never come to.
PARTLY = ((("out", 0), 1), (2, ("out", 1)), (2, 2), (("out", 5), 0))
# As many nodes in all as there may be, and one more.
JUST_FOUR_HUNDRED = tuple((above, 125) for above in (11, 1, 29, 21, 7, 3, 33)) + ((4, 25),)
ONE_MORE = tuple((above, 167) for above in (12, 13, 15, 69, 23, 12, 5, 13, 5))


def out(outcome):
    return ("out", outcome)


def line_of(many):
    """Heads go on to the next node, tails are outcome 1, the last heads outcome 0."""
    return tuple((node + 1 if node + 1 < many else out(0), out(1)) for node in range(many))


def shares_and_cost(machine, count):
    """The weights and the expected tosses by the system of equations of all nodes that are come to."""
    met, todo = {0}, [0]
    while todo:
        for target in machine[todo.pop()]:
            if isinstance(target, int) and target not in met:
                met.add(target)
                todo.append(target)
    ending, grown = set(), True
    while grown:
        more = {node for node in met if any(not isinstance(to, int) or to in ending for to in machine[node])} - ending
        ending |= more
        grown = bool(more)
    found = [solved(machine, ending, lambda to, end=end: Fraction(to == out(end)), 0) for end in range(count)]
    cost = solved(machine, ending, lambda to: Fraction(0), 1) if ending == met else None
    return found + [1 - sum(found)], cost


def solved(machine, ending, worth, each):
    """The value of node 0, of each + the mean of what comes next; nodes that never end are worth 0."""
    order = sorted(ending)
    rows = {}
    for node in order:
        row = {node: Fraction(1), None: Fraction(each)}
        for target in machine[node]:
            if target in ending and isinstance(target, int):
                row[target] = row.get(target, 0) - Fraction(1, 2)
            elif not isinstance(target, int):
                row[None] += worth(target) / 2
        rows[node] = row
    for node in reversed(order):
        row = {key: value / rows[node][node] for key, value in rows[node].items()}
        rows[node] = row
        for other in order:
            share = rows[other].get(node, 0)
            if other < node and share:
                for key, value in row.items():
                    rows[other][key] = rows[other].get(key, 0) - share * value
    return rows[0][None] if 0 in ending else Fraction(0)


def made_machine(maker, many, outcomes, chance):
    def target():
        return out(maker.randrange(outcomes)) if maker.random() < chance else maker.randrange(many)
    return tuple((target(), target()) for _ in range(many))


def made_parts(maker, below, many):
    cuts = sorted(maker.sample(range(1, below), many - 1))
    return tuple((high - low, below) for low, high in zip([0] + cuts, cuts + [below]))


def digits_cost(above, below, places=400):
    """The sum over the first places, and how much at most the others add."""
    rest, found = above % below, Fraction(0)
    for place in range(1, places + 1):
        rest *= 2
        if rest >= below:
            rest -= below
            found += Fraction(place, 2 ** place)
    return found, Fraction(places + 2, 2 ** places)


def machine_cost(parts):
    """The nodes at each depth over 2 ** depth, until the rests come again."""
    rests = [Fraction(*part) for part in parts]
    met, sums = {}, []
    while tuple(rests) not in met:
        met[tuple(rests)] = len(sums)
        sums.append(sum(rests))
        rests = [2 * rest % 1 for rest in rests]
    first = met[tuple(rests)]
    whole = sum(rest / 2 ** depth for depth, rest in enumerate(sums[:first]))
    cycle = sum(rest / 2 ** depth for depth, rest in enumerate(sums) if depth >= first)
    return whole + cycle / (1 - Fraction(1, 2 ** (len(sums) - first))), sum(sums)


class CoinSharesTest(unittest.TestCase):
    def test_shares(self):
        self.assertEqual(coin_shares(FLIPS, 2), ((1, 3), (2, 3), N))
        self.assertEqual(coin_shares(machine=FLIPS, count=4), ((1, 3), (2, 3), N, N, N))
        self.assertEqual(coin_shares(ONCE, 2), (H, H, N))
        self.assertEqual(coin_shares(((out(0), out(0)),), 1), ((1, 1), N))
        self.assertEqual(coin_shares(((out(3), 0),), 4), (N, N, N, (1, 1), N))

    def test_tossing_for_ever(self):
        self.assertEqual(coin_shares(((0, 0),), 1), (N, (1, 1)))
        self.assertEqual(coin_shares(PARTLY, 6), (H, (1, 4), N, N, N, N, (1, 4)))
        self.assertEqual(coin_shares(((1, 2), (2, 1), (1, 1)), 2), (N, N, (1, 1)))
        self.assertEqual(coin_shares(((1, 1), (out(0), 0), (2, 2)), 1), ((1, 1), N))
        self.assertIsNone(coin_cost(((0, 0),)))
        self.assertIsNone(coin_cost(PARTLY))
        self.assertIsNone(coin_cost(((1, 2), (2, 1), (1, 1))))
        self.assertEqual(coin_cost(((1, 1), (out(0), 0), (2, 2))), (4, 1))

    def test_cost(self):
        self.assertEqual(coin_cost(machine=FLIPS), (2, 1))
        self.assertEqual(coin_cost(ONCE), (1, 1))
        self.assertEqual(coin_cost(((out(0), 0),)), (2, 1))
        self.assertEqual(coin_cost(((1, out(0)), (out(1), out(2)))), (3, 2))
        self.assertEqual(coin_cost(((1, out(0)), (2, 0), (out(1), 1))), (3, 1))

    def test_one_node_and_four_hundred(self):
        self.assertEqual(coin_shares(line_of(1), 2), (H, H, N))
        self.assertEqual(coin_shares(line_of(400), 2), ((1, 2 ** 400), (2 ** 400 - 1, 2 ** 400), N))
        self.assertEqual(coin_cost(line_of(400)), (2 ** 400 - 1, 2 ** 399))
        back = tuple((node + 1 if node < 399 else out(7), 0) for node in range(400))
        self.assertEqual(coin_cost(back), (2 ** 401 - 2, 1))
        self.assertEqual(coin_shares(back, 8)[7:], ((1, 1), N))
        for machine in ((), line_of(401)):
            with self.assertRaises(BadCoins):
                coin_cost(machine)
            with self.assertRaises(BadCoins):
                coin_shares(machine, 2)
            with self.assertRaises(BadCoins):
                toss(machine, (True,))

    def test_outcome_25(self):
        self.assertEqual(coin_shares(((out(25), 0),), 26), (N,) * 25 + ((1, 1), N))
        with self.assertRaises(BadCoins):
            coin_shares(((out(26), 0),), 26)
        with self.assertRaises(BadCoins):
            coin_cost(((out(26), 0),))

    def test_against_the_system_of_equations(self):
        kinds = [0, 0]
        for seed in range(150):
            maker = random.Random(seed)
            machine = made_machine(maker, maker.choice((1, 2, 3, 5, 9, 15)), maker.choice((1, 3, 26)), maker.choice((0.1, 0.3, 0.6)))
            shares, cost = shares_and_cost(machine, 26)
            kinds[cost is None] += 1
            self.assertEqual(coin_shares(machine, 26), tuple(reference.pair(share) for share in shares))
            self.assertEqual(coin_cost(machine), None if cost is None else reference.pair(cost))
        self.assertGreater(min(kinds), 20)

    def test_great_ones(self):
        for seed in range(6):
            maker = random.Random(seed)
            machine = made_machine(maker, 400, 26, (0.0, 0.003, 0.02, 0.3)[seed % 4])
            shares = coin_shares(machine, 26)
            self.assertEqual(sum(Fraction(*share) for share in shares), 1)
            self.assertIs(coin_cost(machine) is None, shares[-1] != N)
        machine = tuple(((3 * node + 1) % 400, (7 * node + 2) % 400) if node % 50 else (out(node // 50), (11 * node + 5) % 400)
                        for node in range(400))
        self.assertEqual(sum(Fraction(*share) for share in coin_shares(machine, 8)), 1)

    def test_bad_machines(self):
        for machine in OTHERS + (
            [((out(0), out(1)))], ([out(0), out(1)],), ((["out", 0], out(1)),), ((out(0),),), ((out(0), out(1), out(0)),), ((0, 1),),
            ((1, 0), (0, 2)), ((-1, 0),), ((True, 0),), ((False, 0),), ((out(True), 0),), ((out(False), 0),), ((out(-1), 0),),
            ((out(26), 0),), ((("out",), 0),), ((("out", 0, 0), 0),), ((("in", 0), 0),), ((("out", "0"), 0),), ((None, 0),), (None,),
            ((("out", None), 0),), ((0, out(0)), (0, 5)), ((("OUT", 1), 0),), ((b"out", 0),), nested(99), ((nested(90), 0),), out(0),
            ((0, [0]),), ((0, ()),), ((0, {}),), (((0, 1), (1, 0)),),
        ):
            for call in (lambda: coin_shares(machine, 3), lambda: coin_cost(machine), lambda: toss(machine, (True,))):
                with self.assertRaises(BadCoins, msg=machine):
                    call()
            self.assertIs(coin_holds(THIRDS, machine), False)
            self.assertIs(coin_best(THIRDS, machine), False)

    def test_lists_truths_and_none_at_each_place(self):
        for change in (other_sequence, as_truth, as_none):
            for machine in changed(FLIPS, change):
                with self.assertRaises(BadCoins):
                    coin_cost(machine)
                self.assertIs(coin_holds(THIRDS, machine), False)

    def test_bad_counts(self):
        for count in (0, 27, -1, True, False, None, "2", (2,), 10 ** 30):
            with self.assertRaises(BadCount):
                coin_shares(FLIPS, count)

    def test_an_outcome_beyond_at_any_node(self):
        for machine, count in ((FLIPS, 1), (PARTLY, 5), (((0, 0), (out(1), 0)), 1), (((out(0), out(0)), (0, out(2))), 2)):
            with self.assertRaises(BadCoins):
                coin_shares(machine, count)
        self.assertEqual(coin_shares(((out(0), out(0)), (0, out(2))), 3), ((1, 1), N, N, N))


class TossTest(unittest.TestCase):
    def test_an_outcome(self):
        self.assertEqual(toss(FLIPS, (True,)), (1, 1))
        self.assertEqual(toss(FLIPS, (False, True)), (0, 2))
        self.assertEqual(toss(machine=FLIPS, tosses=(False, False, True)), (1, 3))
        self.assertEqual(toss(ONCE, (True,)), (0, 1))
        self.assertEqual(toss(ONCE, (False,)), (1, 1))

    def test_more_than_are_needed(self):
        self.assertEqual(toss(FLIPS, (True, False, True)), (1, 1))
        self.assertEqual(toss(FLIPS, (False, True, True, True)), (0, 2))

    def test_more_than_there_are(self):
        self.assertEqual(toss(FLIPS, ()), (None, 0))
        self.assertEqual(toss(FLIPS, (False,)), (None, 1))
        self.assertEqual(toss(FLIPS, (False,) * 9), (None, 9))
        self.assertEqual(toss(((0, 0),), (True, False, True)), (None, 3))

    def test_all_tosses_give_the_shares(self):
        machine = coin_machine(((1, 8), (3, 8), (1, 2)))
        ends = [toss(machine, tuple(bool(number >> place & 1) for place in range(6)))[0] for number in range(64)]
        self.assertEqual([ends.count(outcome) for outcome in range(3)], [8, 24, 32])


class CoinsLeastTest(unittest.TestCase):
    def test_the_example(self):
        self.assertEqual(coins_least(THIRDS), (2, 1))
        self.assertEqual(coins_least(parts=((2, 6), (6, 9))), (2, 1))

    def test_one_part(self):
        self.assertEqual(coins_least(((1, 1),)), N)
        self.assertEqual(coins_least(((7, 7),)), N)

    def test_parts_with_an_end(self):
        self.assertEqual(coins_least((H, H)), (1, 1))
        self.assertEqual(coins_least((H, (1, 4), (1, 4))), (3, 2))
        self.assertEqual(coins_least(((3, 4), (1, 4))), (3, 2))
        self.assertEqual(coins_least(((5, 8), (3, 8))), (7, 4))
        self.assertEqual(coins_least(((127, 128), (1, 128))), (127, 64))

    def test_parts_whose_digits_come_again(self):
        for below in range(2, 201):
            for above in {1, below // 3, below // 2, below - 1}:
                if 0 < above < below:
                    told = Fraction(*coins_least(((above, below), (below - above, below))))
                    low, more = digits_cost(above, below)
                    other, other_more = digits_cost(below - above, below)
                    self.assertTrue(low + other <= told <= low + other + more + other_more)

    def test_many_parts(self):
        self.assertEqual(coins_least(((1, 26),) * 26), reference.pair(machine_cost(((1, 26),) * 26)[0]))
        self.assertEqual(coins_least(((1, 8),) * 8), (3, 1))
        for seed in range(60):
            maker = random.Random(seed)
            below = maker.randint(3, 200)
            parts = made_parts(maker, below, min(below, maker.randint(2, 26)))
            self.assertEqual(coins_least(parts), reference.pair(machine_cost(parts)[0]))

    def test_unlike_numbers_below(self):
        parts = ((1, 199), (99, 199), (99, 199))
        self.assertEqual(coins_least(parts), reference.pair(machine_cost(parts)[0]))
        parts = ((1, 2), (1, 3), (1, 7), (1, 42))
        self.assertEqual(coins_least(parts), reference.pair(machine_cost(parts)[0]))

    def test_a_number_below_of_200_and_of_201(self):
        self.assertEqual(coins_least(((1, 200), (199, 200))), reference.pair(machine_cost(((1, 200), (199, 200)))[0]))
        for parts in (((1, 201), (200, 201)), ((1, 2), (1, 402), (200, 402)), ((1, 10 ** 30), (10 ** 30 - 1, 10 ** 30))):
            for call in (coins_least, coin_machine, lambda told: coin_holds(told, FLIPS), lambda told: coin_best(told, FLIPS)):
                with self.assertRaises(BadParts):
                    call(parts)
        self.assertEqual(coins_least(((200, 400), (201, 402))), (1, 1))

    def test_bad_parts(self):
        for parts in OTHERS + ((), ((1, 2),), ((1, 2), (1, 3)), ((1, 2), (1, 2), (1, 2)), [H, H], (H, [1, 2]), ((1, 1), N), (N, (1, 1)),
                               ((3, 2), (-1, 2)), ((1, 2), (True, 2)), ((True, True),), ((1, 2), (1, 2, 1)), ((1, 2), (1, 0)),
                               ((-1, -2), (1, 2)), ((1, 2), None), (1, 1), ((1, 27),) * 27, (("1", 2), H), nested(99)):
            for call in (coins_least, coin_machine, lambda told: coin_holds(told, FLIPS), lambda told: coin_best(told, FLIPS)):
                with self.assertRaises(BadParts, msg=parts):
                    call(parts)


class CoinMachineTest(unittest.TestCase):
    def check(self, parts):
        machine = coin_machine(parts)
        told = tuple(reference.pair(Fraction(*part)) for part in parts)
        self.assertEqual(coin_shares(machine, len(parts)), told + (N,))
        self.assertEqual(coin_cost(machine), coins_least(parts))
        self.assertIs(coin_holds(parts, machine), True)
        self.assertIs(coin_best(parts, machine), True)
        return machine

    def test_the_example(self):
        self.check(THIRDS)
        self.assertIs(coin_best(THIRDS, FLIPS), True)

    def test_parts_and_cost(self):
        for parts in ((H, H), ((1, 128), (127, 128)), ((4, 8), (2, 16), (3, 8)), ((1, 5),) * 5, ((1, 26),) * 26, ((50, 100), (1, 3), (1, 6)),
                      ((1, 200), (199, 200)), ((1, 7), (2, 7), (4, 7)), ((1, 2), (1, 3), (1, 7), (1, 42)), ((1, 199), (198, 199))):
            self.check(parts)
        tried = 0
        for seed in range(60):
            maker = random.Random(seed)
            below = maker.randint(2, 200)
            parts = made_parts(maker, below, maker.randint(2, min(below, 26)))
            nodes = machine_cost(parts)[1]
            if nodes <= 400:
                tried += 1
                self.check(parts)
            else:
                with self.assertRaises(TooMany):
                    coin_machine(parts)
        self.assertGreater(tried, 20)

    def test_four_hundred_nodes(self):
        self.assertEqual(machine_cost(JUST_FOUR_HUNDRED)[1], 400)
        self.check(JUST_FOUR_HUNDRED)
        self.assertEqual(machine_cost(ONE_MORE)[1], 401)
        with self.assertRaises(TooMany):
            coin_machine(parts=ONE_MORE)
        with self.assertRaises(TooMany):
            coin_machine(((1, 197),) * 4 + ((193, 197),))

    def test_digits_that_come_again_late(self):
        # Those below 188, 172, 164 and 148 come again behind 23, 14, 20 and 36 places, all together behind 28980.
        parts = sum((((prime % 4, 4 * prime), (prime // 4, prime)) for prime in (47, 43, 41, 37)), ())
        self.assertEqual(sum(Fraction(*part) for part in parts), 1)
        with self.assertRaises(TooMany):
            coin_machine(parts)
        bounds = [digits_cost(above, below) for above, below in parts]
        low = sum(found for found, _ in bounds)
        self.assertTrue(low <= Fraction(*coins_least(parts)) <= low + sum(more for _, more in bounds))

    def test_one_part(self):
        with self.assertRaises(BadParts):
            coin_machine(((1, 1),))

    def test_nothing_is_changed(self):
        before = frozen(THIRDS)
        self.assertEqual(coin_machine(THIRDS), coin_machine(THIRDS))
        self.assertEqual(frozen(THIRDS), before)


class CoinHoldsTest(unittest.TestCase):
    def both(self, parts, machine, holds, best):
        self.assertIs(coin_holds(parts, machine), holds)
        self.assertIs(coin_best(parts, machine), best)

    def test_right(self):
        self.both(THIRDS, FLIPS, True, True)
        self.assertIs(coin_holds(parts=THIRDS, thing=FLIPS), True)
        self.assertIs(coin_best(parts=THIRDS, thing=FLIPS), True)
        self.both(((2, 6), (40, 60)), FLIPS, True, True)
        self.both((H, H), ONCE, True, True)
        self.both((H, H), ((out(1), out(0)),), True, True)

    def test_right_but_dearer(self):
        self.both((H, H), ((1, 1),) + ONCE, True, False)
        self.both((H, H), ((1, 2), (out(0), 0), (out(1), 0)), True, False)
        self.both(THIRDS, ((1, 1), (out(1), 2), (out(0), 1)), True, False)
        self.both(((1, 1),), ((out(0), out(0)),), True, False)
        self.both(((3, 3),), ((out(0), 0),), True, False)

    def test_nodes_never_come_to(self):
        self.both((H, H), ONCE + ((1, 1),), True, True)
        self.both((H, H), ONCE + ((out(1), 0),), True, True)
        self.both((H, H), ONCE + ((out(2), 0),), False, False)

    def test_wrong_in_one_share(self):
        self.both(THIRDS[::-1], FLIPS, False, False)
        self.both(((1, 3), (1, 3), (1, 3)), FLIPS, False, False)
        self.both((H, (1, 4), (1, 4)), ONCE, False, False)
        self.both((H, (1, 4), (1, 4)), ((out(0), 1), (out(1), out(1))), False, False)

    def test_an_outcome_beyond(self):
        self.both((H, H), ((out(0), out(2)),), False, False)
        self.both(((1, 1),), ((out(0), out(0)), (out(1), 0)), False, False)

    def test_endless_weight(self):
        self.both((H, H), ((out(0), 1), (out(1), 2), (2, 2)), False, False)
        self.both((H, (1, 4), (1, 4)), ((out(0), 1), (out(1), 2), (2, 2)), False, False)
        self.both(((1, 1),), ((0, 0),), False, False)

    def test_any_other_object(self):
        for thing in OTHERS + (nested(99), list(FLIPS), THIRDS, line_of(401), ()):
            self.both(THIRDS, thing, False, False)


class RowMachineTest(unittest.TestCase):
    def check(self, made, state):
        outcomes, machine = row_machine(made, state)
        line = dict(zip(states_of(made[0]), reference.table(made)))[state]
        told = [("ended", behind) for behind in states_of(made[0])] + [("refused",), ("endless",)]
        weights = [(outcome, weight) for outcome, weight in zip(told, (*line[0], line[1], line[2])) if weight[0]]
        self.assertEqual(outcomes, tuple(outcome for outcome, _ in weights))
        parts = tuple(weight for _, weight in weights)
        if len(parts) == 1:
            self.assertIsNone(machine)
        else:
            self.assertIs(coin_best(parts, machine), True)
        return outcomes, machine

    def test_outcomes_in_their_order(self):
        made = program("draw x from 0 weight 3, 1 weight 2, 2 weight 3, 3 weight 4; see not (x is 2); while (x is 3) do (skip)", "x 4")
        outcomes, _ = self.check(made, (0,))
        self.assertEqual(outcomes, (("ended", (0,)), ("ended", (1,)), ("refused",), ("endless",)))
        self.assertEqual(self.check((X, COIN), (1,))[0], (("ended", (0,)), ("ended", (1,))))
        self.assertEqual(row_machine(program=(X, COIN), state=(1,)), row_machine((X, COIN), (1,)))

    def test_one_outcome(self):
        self.assertEqual(row_machine((X, SKIP), (1,)), ((("ended", (1,)),), None))
        self.assertEqual(row_machine((X, LOOP), (0,)), ((("ended", (1,)),), None))
        self.assertEqual(row_machine((X, ("see", X_IS_0)), (1,)), ((("refused",),), None))
        self.assertEqual(row_machine((X, ("while", TRUE, SKIP)), (1,)), ((("endless",),), None))

    def test_refused_and_endless(self):
        self.check(program("draw x from 0 weight 1, 1 weight 2; see (x is 0)", "x 2"), (0,))
        self.check(program("draw x from 0 weight 1, 1 weight 2; while (x is 0) do (skip)", "x 2"), (0,))

    def test_twenty_six_outcomes(self):
        # From all states: 24 states behind, refused, endless, with 1, 1 and 1 over 26.
        made = program("draw z from 0 weight 24, 1 weight 1, 2 weight 1; if (z is 1) then (see not true) else (if (z is 2) then "
                       "(while true do (skip)) else (draw x from 0 weight 1, 1 weight 1; draw y from 0 weight 1, 1 weight 1, 2 weight 1, "
                       "3 weight 1; draw z from 0 weight 1, 1 weight 1, 2 weight 1))", "x 2, y 4, z 3")
        outcomes, machine = row_machine(made, (0, 0, 0))
        self.assertEqual(len(outcomes), 26)
        self.assertIs(coin_best(((1, 26),) * 26, machine), True)

    def test_too_many(self):
        draw = "draw x from 0 weight 99, 1 weight {}"
        self.assertEqual(len(self.check(program(draw.format(98), "x 2"), (0,))[0]), 2)
        big = program("draw x from 0 weight 99, 1 weight 99, 0 weight 1, 1 weight 2", "x 2")
        with self.assertRaises(TooMany):
            row_machine(big, (0,))
        half = program("draw x from 0 weight 99, 1 weight 99, 0 weight 1, 1 weight 3", "x 2")
        self.assertEqual(len(self.check(half, (0,))[0]), 2)
        one = program("draw x from 0 weight 1, 1 weight 19; if (x is 0) then (draw x from 0 weight 1, 2 weight 19) else (skip)", "x 3")
        with self.assertRaises(TooMany):
            row_machine(one, (0,))
        just = program("draw x from 0 weight 1, 1 weight 19; if (x is 0) then (draw x from 0 weight 1, 2 weight 9) else (skip)", "x 3")
        self.assertEqual(len(self.check(just, (0,))[0]), 3)
        nodes = program("draw x from 0 weight 12, 1 weight 13, 2 weight 15, 3 weight 69, 4 weight 58; if (x is 4) then "
                        "(draw x from 4 weight 23, 5 weight 12, 3 weight 23) else (skip)", "x 6")
        with self.assertRaises(TooMany):
            row_machine(program("draw x from 0 weight 1, 1 weight 1, 2 weight 1, 3 weight 1, 4 weight 99, 5 weight 94", "x 6"), (0,))
        self.check(nodes, (0,))

    def test_against_the_tables(self):
        tried = 0
        for seed in range(240):
            made = reference.Maker(seed, most=9).program(4)
            state = states_of(made[0])[-1]
            try:
                _, machine = self.check(made, state)
                tried += machine is not None
            except TooMany:
                continue
        self.assertGreater(tried, 25)

    def test_errors(self):
        for made, error in (((X, CHOICE), HasChoices), ((X, seq(LOOP, CHOICE)), HasChoices), ((X, seq(SKIP)), BadProgram),
                            (None, BadProgram), (nested(99), BadProgram)):
            with self.assertRaises(error):
                row_machine(made, (0,))
        for state in ((), (0, 0), (2,), [0], (True,), None):
            with self.assertRaises(BadState):
                row_machine((X, COIN), state)


if __name__ == "__main__":
    unittest.main()
