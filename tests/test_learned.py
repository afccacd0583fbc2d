"""What is learned by what is told behind (36)."""

import itertools
import unittest
from fractions import Fraction

from alikechances.errors import BadGame, BadNames, BadProgram, BadShares, HasChoices
from alikechances.learned import guess, guesses, told_by, worth
from tests.helpers import CHOICE, COIN, LOOP, OTHERS, SKIP, TRUE, X, program
from tests.reference import Maker, pair, states_of, table

EACH = [((x, y), (1, 1)) for x in (0, 1) for y in (0, 1)]
BOTH = [((0, 0), (1, 1)), ((1, 0), (1, 1))]
NOISY = program("if (x is 0) then (draw y from 0 weight 3, 1 weight 1) else (draw y from 0 weight 1, 1 weight 3)")
MATCH = (((1, 1), (1, 1), (0, 1), (0, 1)), ((0, 1), (0, 1), (1, 1), (1, 1)))


def joint(before, shares, names):
    """A dict from (values behind, state ahead) to the weight of both."""
    states = states_of(before[0])
    lines = dict(zip(states, table(before)))
    places = [[known for known, _ in before[0]].index(name) for name in names]
    found = {}
    for state, share in shares:
        for behind, weight in zip(states, lines[state][0]):
            if weight[0]:
                key = (tuple(behind[place] for place in places), state)
                found[key] = found.get(key, 0) + Fraction(*share) * Fraction(*weight)
    return found


class ToldByTest(unittest.TestCase):
    def test_all_names_and_some(self):
        self.assertEqual(told_by(NOISY, BOTH, ("y",)), [
            ((0,), (1, 2), [((0, 0), (3, 4)), ((1, 0), (1, 4))]), ((1,), (1, 2), [((0, 0), (1, 4)), ((1, 0), (3, 4))]),
        ])
        self.assertEqual(told_by(NOISY, BOTH, ("x", "y")), [
            ((0, 0), (3, 8), [((0, 0), (1, 1))]), ((0, 1), (1, 8), [((0, 0), (1, 1))]),
            ((1, 0), (1, 8), [((1, 0), (1, 1))]), ((1, 1), (3, 8), [((1, 0), (1, 1))]),
        ])

    def test_names_in_another_order(self):
        told = told_by(NOISY, BOTH, ("y", "x"))
        self.assertEqual([values for values, _, _ in told], [(0, 0), (0, 1), (1, 0), (1, 1)])
        self.assertEqual([fraction for _, fraction, _ in told], [(3, 8), (1, 8), (1, 8), (3, 8)])

    def test_no_names(self):
        self.assertEqual(told_by(NOISY, BOTH, ()), [((), (1, 1), [((0, 0), (1, 2)), ((1, 0), (1, 2))])])
        self.assertEqual(told_by(program("see (x is 1)"), EACH, ()), [((), (1, 1), [((1, 0), (1, 2)), ((1, 1), (1, 2))])])

    def test_what_is_refused_and_what_never_ends_is_left_out(self):
        before = program("draw y from 0 weight 1, 1 weight 1; see ((x is 0) or (y is 1)); while ((x is 0) and (y is 1)) do (skip)")
        self.assertEqual(told_by(before, BOTH, ("y",)), [
            ((0,), (1, 2), [((0, 0), (1, 1))]), ((1,), (1, 2), [((1, 0), (1, 1))]),
        ])

    def test_nothing_ends(self):
        for text in ("see not true", "while true do (skip)", "see (x is 1)"):
            before = program(text, "x 2")
            for names in ((), ("x",)):
                self.assertEqual(told_by(before, [((0,), (1, 1))], names), [])
                self.assertIsNone(guess(before, [((0,), (1, 1))], names, ("x",)))
                self.assertIsNone(guesses(before, [((0,), (1, 1))], names, ()))
                self.assertIsNone(worth(before, [((0,), (1, 1))], names, (((1, 1), (1, 1)),)))

    def test_shares_of_any_sum(self):
        wanted = told_by(NOISY, [((0, 0), (1, 4)), ((1, 0), (3, 4))], ("y",))
        for times in ((2, 8), (10, 1), (int("7" * 60), int("3" * 60))):
            shares = [((0, 0), times), ((1, 0), (3 * times[0], times[1]))]
            self.assertEqual(told_by(NOISY, shares, ("y",)), wanted)
        self.assertEqual(wanted[0], ((0,), (3, 8), [((0, 0), (1, 2)), ((1, 0), (1, 2))]))

    def test_made_up_programs(self):
        for seed in range(60):
            made = Maker(seed, ("skip", "set", "draw", "see", "if", "while", "seq"), most=12)
            before = made.program(3)
            shares = [(state, (made.random.randint(1, 5), made.random.randint(1, 5)))
                      for state in states_of(before[0]) if made.random.random() < 0.7] or [(states_of(before[0])[0], (1, 1))]
            names = [name for name, _ in before[0]]
            made.random.shuffle(names)
            names = tuple(names[:made.random.randint(0, 3)])
            both = joint(before, shares, names)
            whole = sum(both.values())
            wanted = []
            for values in sorted({values for values, _ in both}):
                parts = [(state, both[values, state]) for state, _ in shares if (values, state) in both]
                part = sum(weight for _, weight in parts)
                wanted.append((values, pair(part / whole), [(state, pair(weight / part)) for state, weight in parts]))
            self.assertEqual(told_by(before, shares, names), wanted)


class GuessTest(unittest.TestCase):
    def test_by_hand(self):
        self.assertEqual(guess(NOISY, BOTH, ("y",), ("x",)), (3, 4))
        self.assertEqual(guesses(NOISY, BOTH, ("y",), ("x",)), [((0,), (0,)), ((1,), (1,))])
        self.assertEqual(guess(NOISY, BOTH, (), ("x",)), (1, 2))
        self.assertEqual(guess(NOISY, BOTH, ("y", "x"), ("x", "y")), (1, 1))
        self.assertEqual(guess(NOISY, BOTH, ("y",), ()), (1, 1))
        self.assertEqual(guesses(NOISY, BOTH, ("y",), ()), [((0,), ()), ((1,), ())])

    def test_it_is_the_values_ahead_that_are_said(self):
        before = program("y := x; x := 0")
        self.assertEqual(guess(before, EACH, ("y",), ("x",)), (1, 1))
        self.assertEqual(guess(before, EACH, ("x",), ("x",)), (1, 2))
        self.assertEqual(guess(before, EACH, ("y",), ("y",)), (1, 2))
        self.assertEqual(guesses(before, EACH, ("x", "y"), ("y", "x")), [((0, 0), (0, 0)), ((0, 1), (0, 1))])

    def test_the_same_names_asked_and_told(self):
        self.assertEqual(guess(NOISY, BOTH, ("x",), ("x",)), (1, 1))
        self.assertEqual(guesses(NOISY, BOTH, ("x",), ("x",)), [((0,), (0,)), ((1,), (1,))])

    def test_of_several_best_ones_the_least(self):
        self.assertEqual(guesses(program("skip"), EACH, (), ("x",)), [((), (0,))])
        self.assertEqual(guesses(program("skip"), EACH[1:], (), ("x", "y")), [((), (0, 1))])
        self.assertEqual(guesses(program("skip"), EACH[1:], (), ("y", "x")), [((), (0, 1))])
        shares = [((0, 0), (1, 3)), ((0, 1), (2, 3)), ((1, 0), (4, 6)), ((1, 1), (1, 6))]
        self.assertEqual(guesses(program("skip"), shares, (), ("x", "y")), [((), (0, 1))])
        self.assertEqual(guesses(program("skip"), shares, (), ("y", "x")), [((), (0, 1))])
        self.assertEqual(guess(program("skip"), shares, (), ("y", "x")), (4, 11))

    def test_against_all_that_can_be_said(self):
        for seed in range(25):
            made = Maker(seed, ("set", "draw", "see", "if", "while"), most=6)
            before = made.program(3)
            names = tuple(name for name, _ in before[0])
            shares = [(state, (made.random.randint(1, 3), 1)) for state in states_of(before[0])]
            told, asked = names[:1], names[1:] or names
            both = joint(before, shares, told)
            values = sorted({seen for seen, _ in both})
            places = [names.index(name) for name in asked]
            said = sorted({tuple(state[place] for place in places) for state in states_of(before[0])})
            best = {}
            for answer in itertools.product(said, repeat=len(values)):
                says = dict(zip(values, answer))
                right = sum(weight for (seen, state), weight in both.items()
                            if tuple(state[place] for place in places) == says[seen])
                best[right] = min(best.get(right, answer), answer)
            whole = sum(both.values())
            wanted = max(best) / whole if whole else None
            self.assertEqual(guess(before, shares, told, asked), None if wanted is None else pair(wanted))
            self.assertEqual(guesses(before, shares, told, asked), list(zip(values, best[max(best)])) if whole else None)


class WorthTest(unittest.TestCase):
    def test_by_hand(self):
        self.assertEqual(worth(NOISY, BOTH, ("y",), MATCH), (3, 4))
        self.assertEqual(worth(NOISY, BOTH, (), MATCH), (1, 2))
        self.assertEqual(worth(NOISY, BOTH, ("x",), MATCH), (1, 1))

    def test_fractions_of_any_sign_and_form(self):
        one = (((-3, 6), (0, 1), (-5, 2), (7, 1)),)
        self.assertEqual(worth(NOISY, BOTH, ("y",), one), (-3, 2))
        self.assertEqual(worth(NOISY, BOTH, ("y",), one * 6), (-3, 2))
        self.assertEqual(worth(NOISY, BOTH, ("y",), (one[0], ((0, 9),) * 4)), (0, 1))
        self.assertEqual(worth(NOISY, BOTH, ("x",), (*one, ((-1, 1),) * 4)), (-3, 4))

    def test_six_actions(self):
        game = tuple(tuple((1 if at == number else 0, 1) for at in range(4)) for number in range(4)) + (((1, 3),) * 4,) * 2
        self.assertEqual(worth(program("y := x"), EACH, ("y",), game), (1, 2))
        self.assertEqual(worth(program("skip"), EACH, ("y", "x"), game), (1, 1))
        self.assertEqual(worth(program("skip"), EACH, (), game), (1, 3))

    def test_against_all_that_can_be_done(self):
        for seed in range(25):
            made = Maker(seed, ("set", "draw", "see", "if", "while"), most=6)
            before = made.program(3)
            states = states_of(before[0])
            shares = [(state, (made.random.randint(1, 3), 1)) for state in states]
            game = tuple(tuple((made.random.randint(-5, 5), made.random.randint(1, 4)) for _ in states) for _ in range(3))
            names = (before[0][-1][0],)
            both = joint(before, shares, names)
            values = sorted({seen for seen, _ in both})
            won = [sum(weight * Fraction(*dict(zip(values, does))[seen][states.index(state)])
                       for (seen, state), weight in both.items())
                   for does in itertools.product(game, repeat=len(values))]
            whole = sum(both.values())
            self.assertEqual(worth(before, shares, names, game), pair(max(won) / whole) if whole else None)

    def test_games_that_are_none(self):
        row = ((1, 1),) * 4
        for game in ((), (row,) * 7, [row], (list(row),), (row, row[:2]), ((), ()), (row, ()), row, (((1, 0),) * 4,),
                     (((1, True),) * 4,), ((1,) * 4,), (((1, 1, 1),) * 4,), None, (None,), *OTHERS):
            with self.assertRaises(BadGame):
                worth((NOISY[0], ("choose", "x", (("num", 0),))), BOTH, ("q",), game)
        for game in ((row[:3],), (row + row[:1],) * 2, (row[:1],)):
            with self.assertRaises(HasChoices):
                worth((NOISY[0], ("choose", "x", (("num", 0),))), BOTH, ("q",), game)
            with self.assertRaises(BadNames):
                worth(NOISY, BOTH, ("q",), game)
            with self.assertRaises(BadGame):
                worth(NOISY, BOTH, ("x",), game)


class WrongTest(unittest.TestCase):
    def each(self, names):
        return (lambda before, shares: told_by(before, shares, names), lambda before, shares: guess(before, shares, names, ()),
                lambda before, shares: guess(before, shares, (), names), lambda before, shares: guesses(before, shares, names, ()),
                lambda before, shares: guesses(before, shares, (), names),
                lambda before, shares: worth(before, shares, names, (((1, 1), (1, 1)),)))

    def test_names(self):
        shares = [((0,), (1, 1))]
        for names in (None, "x", ["x"], ("x", "x"), ("X",), (1,), ("if",), ("",)):
            for function in self.each(names):
                with self.assertRaises(BadNames):
                    function((X, CHOICE), shares)
        for names in (("y",), ("x", "y")):
            for function in self.each(names):
                with self.assertRaises(HasChoices):
                    function((X, CHOICE), shares)
                with self.assertRaises(BadNames):
                    function((X, COIN), shares)
                with self.assertRaises(BadShares):
                    function((X, COIN), [((0, 0), (1, 1))])

    def test_programs_and_shares(self):
        for function in self.each(()):
            for thing in (None, (X, ()), ((), SKIP)):
                with self.assertRaises(BadProgram):
                    function(thing, None)
            for shares in (None, [], (((0,), (1, 1)),), [((0,), (0, 1))], [((0,), (1, 1))] * 2):
                with self.assertRaises(BadShares):
                    function((X, ("if", TRUE, CHOICE, LOOP)), shares)
            with self.assertRaises(HasChoices):
                function((X, ("if", TRUE, CHOICE, LOOP)), [((0,), (1, 1))])


if __name__ == "__main__":
    unittest.main()
