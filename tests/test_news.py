"""News tables, their worth (37), and which of two tells more (38)."""

import itertools
import random
import unittest
from fractions import Fraction

from alikechances.errors import (
    BadGame,
    BadLeaning,
    BadNames,
    BadNews,
    BadNoise,
    BadState,
    HasChoices,
    Lost,
    NotAlike,
    TooMany,
)
from alikechances.learned import worth
from alikechances.news import (
    best_news,
    game_against,
    game_holds,
    least_news,
    news_of,
    news_worth,
    noise_for,
    noise_holds,
    noisy,
    same_news,
    tells_more,
)
from tests.helpers import CHOICE, OTHERS, XY, as_none, changed, other_sequence, program
from tests.reference import pair

SURE = (((3, 4), (1, 4)), ((1, 4), (3, 4)))
VAGUE = (((5, 8), (3, 8)), ((3, 8), (5, 8)))
HALVES = ((1, 2), (1, 2))
MATCH = (((1, 1), (0, 1)), ((0, 1), (1, 1)))
ALL = (((1, 1), (0, 1)), ((0, 1), (1, 1)))
NOTHING = (((1, 1),), ((1, 1),))


def made_row(made, many, most=9):
    """A row of fractions together one, some of them 0, not in lowest terms."""
    while True:
        weights = [made.choice((0, 1, 2, made.randint(1, most))) for _ in range(many)]
        if sum(weights):
            return tuple((3 * weight, 3 * sum(weights)) for weight in weights)


def made_news(made, rows, columns, most=9):
    return tuple(made_row(made, columns, most) for _ in range(rows))


def in_lowest_terms(news):
    return tuple(tuple(pair(Fraction(*part)) for part in row) for row in news)


class NewsOfTest(unittest.TestCase):
    def test_the_example(self):
        before = program("if (x is 0) then (draw y from 0 weight 3, 1 weight 1) else (draw y from 0 weight 1, 1 weight 3)")
        self.assertEqual(news_of(before, ((0, 0), (1, 0)), ("y",)), SURE)
        self.assertEqual(news_of(before, ((0, 0), (1, 0)), ()), NOTHING)
        self.assertEqual(news_of(before, ((0, 1),), ("y",)), SURE[:1])

    def test_a_column_for_the_values_that_come_alone(self):
        before = program("draw x from 1 weight 1, 3 weight 2; if (y is 1) then (x := 2) else (skip)", "x 4, y 2")
        self.assertEqual(news_of(before, ((0, 0), (3, 1)), ("x",)), (((1, 3), (0, 1), (2, 3)), ((0, 1), (1, 1), (0, 1))))
        self.assertEqual(news_of(before, ((0, 0), (1, 0)), ("x",)), (((1, 3), (2, 3)),) * 2)
        self.assertEqual(news_of(before, ((0, 0), (3, 1)), ("y", "x")), (((1, 3), (2, 3), (0, 1)), ((0, 1), (0, 1), (1, 1))))
        self.assertEqual(news_of(before, ((0, 0), (3, 1)), ("x", "y")), (((1, 3), (0, 1), (2, 3)), ((0, 1), (1, 1), (0, 1))))

    def test_lost(self):
        states = ((0, 0), (1, 0))
        for text in ("see (x is 0)", "while (x is 1) do (skip)", "draw y from 0 weight 99, 1 weight 1; see (y is 0)",
                     "while (x is 0) do (draw x from 0 weight 1, 1 weight 1); while (x is 1) do (skip)"):
            with self.assertRaises(Lost):
                news_of(program(text), states, ("x",))
            with self.assertRaises(BadNames):
                news_of(program(text), states, ("q",))
            with self.assertRaises(BadState):
                news_of(program(text), ((0, 2),), ("x",))
        # From the states that are asked for nothing is lost.
        self.assertEqual(news_of(program("see (x is 0)"), states[:1], ("x",)), (((1, 1),),))

    def test_too_many_columns(self):
        six = program("draw x from 0 weight 1, 1 weight 1, 2 weight 1, 3 weight 1, 4 weight 1, 5 weight 1", "x 6, y 2")
        self.assertEqual(len(news_of(six, ((0, 0),), ("x", "y"))[0]), 6)
        for wrong in (six, (six[0], ("seq", (six[1], ("see", ("is", ("var", "y"), ("num", 0))))))):
            with self.assertRaises(TooMany if wrong is six else Lost):
                news_of(wrong, ((0, 0), (1, 1)), ("x", "y"))

    def test_states_that_are_none(self):
        skip = program("skip", "x 6, y 2")
        states = tuple((value, 0) for value in range(6))
        self.assertEqual(len(news_of(skip, states, ("x",))), 6)
        for wrong in ((), states + ((6, 0),), states + ((5, 1),), states[::-1], states[:1] * 2, list(states), [[0, 0]], None,
                      ([0, 0],), ((0, True),), (0, 1), ((0, 0), (0,)), *OTHERS[:12]):
            with self.assertRaises(BadState):
                news_of((skip[0], CHOICE), wrong, None)
        for wrong in (((0,),), ((0, 0, 0),), ((0, 2),), ((-1, 0), (0, 0)), ((0, 0), (6, 0)), ((),)):
            with self.assertRaises(HasChoices):
                news_of((skip[0], CHOICE), wrong, ("q",))
            with self.assertRaises(BadState):
                news_of(skip, wrong, ("q",))

    def test_names_that_are_none(self):
        for names in (None, ["x"], ("x", "x"), "x"):
            with self.assertRaises(BadNames):
                news_of((XY, CHOICE), ((0, 0),), names)


class NoisyTest(unittest.TestCase):
    def test_by_hand(self):
        self.assertEqual(noisy(SURE, SURE), VAGUE)
        self.assertEqual(noisy(ALL, SURE), SURE)
        self.assertEqual(noisy(SURE, ALL), SURE)
        self.assertEqual(noisy(SURE, NOTHING), NOTHING)
        self.assertEqual(noisy(NOTHING, (((2, 4), (0, 7), (1, 2)),)), (((1, 2), (0, 1), (1, 2)),) * 2)

    def test_bad_noises(self):
        for noise in (SURE[:1], SURE + SURE[:1], (((1, 1),),)):
            with self.assertRaises(BadNoise):
                noisy(SURE, noise)
        for noise in (None, (), [SURE], (SURE[0], ((1, 1),)), (((1, 2), (1, 3)),) * 2, (((3, 2), (-1, 2)),) * 2, *OTHERS):
            with self.assertRaises(BadNoise):
                noisy(SURE, noise)
            with self.assertRaises(BadNews):
                noisy(noise, None)


class WorthTest(unittest.TestCase):
    def test_by_hand(self):
        self.assertEqual(news_worth(SURE, HALVES, MATCH), (3, 4))
        self.assertEqual(news_worth(VAGUE, HALVES, MATCH), (5, 8))
        self.assertEqual(news_worth(NOTHING, ((9, 12), (1, 4)), MATCH), (3, 4))
        self.assertEqual(news_worth(SURE, ((0, 3), (1, 1)), (((5, 1), (-7, 2)),)), (-7, 2))
        self.assertEqual(news_worth(ALL, HALVES, (((1, 1), (-1, 1)), ((-1, 1), (1, 1)), ((0, 1), (0, 1)))), (1, 1))

    def test_against_all_that_can_be_done(self):
        for seed in range(30):
            made = random.Random(seed)
            rows, columns, actions = [made.randint(1, 4) for _ in range(3)]
            news, leaning = made_news(made, rows, columns), made_row(made, rows)
            game = tuple(tuple((made.randint(-9, 9), made.randint(1, 4)) for _ in range(rows)) for _ in range(actions))
            won = [sum(Fraction(*leaning[row]) * Fraction(*news[row][column]) * Fraction(*does[column][row])
                       for row in range(rows) for column in range(columns))
                   for does in itertools.product(game, repeat=columns)]
            self.assertEqual(news_worth(news, leaning, game), pair(max(won)))

    def test_it_is_the_worth_of_a_program(self):
        before = program("draw y from x weight 2, 0 weight 1", "x 2, y 2")
        states = ((0, 0), (1, 0))
        shares = list(zip(states, ((1, 3), (2, 3))))
        game = (((4, 1), (0, 1), (-1, 1), (0, 1)), ((1, 1), (0, 1), (2, 1), (0, 1)))
        seen = tuple((action[0], action[2]) for action in game)
        self.assertEqual(news_worth(news_of(before, states, ("y",)), ((1, 3), (2, 3)), seen), worth(before, shares, ("y",), game))

    def test_bad_leanings_and_games(self):
        for leaning in (None, [(1, 2), (1, 2)], ((1, 2),), ((1, 2), (1, 3)), ((3, 2), (-1, 2)), (1, 0), (), ((1, 1), (0, 0)),
                        ((True, 1), (0, 1)), *OTHERS):
            with self.assertRaises(BadLeaning):
                news_worth(SURE, leaning, None)
        for leaning in (((1, 1),), ((1, 3),) * 3):
            with self.assertRaises(BadGame):
                news_worth(SURE, leaning, None)
            with self.assertRaises(BadLeaning):
                news_worth(SURE, leaning, (((1, 1),),))
        for game in (None, (), [MATCH], (MATCH[0], ((1, 1),)), (MATCH[0],) * 7, ((),), *OTHERS):
            with self.assertRaises(BadGame):
                news_worth(SURE, HALVES, game)
        for game in ((((1, 1),),), (((1, 1),) * 3,) * 2):
            with self.assertRaises(BadGame):
                news_worth(SURE, HALVES, game)


class NewsKindTest(unittest.TestCase):
    def test_what_is_none(self):
        row = ((1, 2), (1, 2))
        wrong = ((), (row,) * 7, (((1, 7),) * 7,), [row], (list(row),), (row, ((1, 1),)), (((1, 2), (1, 3)),), ((),),
                 (((3, 2), (-1, 2)),), (((1, 1), (0, 0)),), (((True, 1),),), (((1, True),),), ((1,),), (((1.0, 1),),), *OTHERS)
        for thing in wrong:
            for function in (tells_more, noise_for, game_against, same_news):
                with self.assertRaises(BadNews):
                    function(thing, SURE)
                with self.assertRaises(BadNews):
                    function(SURE, thing)
            for function in (noise_holds, game_holds):
                with self.assertRaises(BadNews):
                    function(SURE, thing, None)
            for function in (least_news, lambda news: best_news([SURE, news])):
                with self.assertRaises(BadNews):
                    function(thing)
        self.assertIs(tells_more((row,) * 6, ((row[0], (0, 1), (0, 2), (0, 3), (0, 4), (2, 4)),) * 6), True)

    def test_unlike_numbers_of_rows(self):
        for function in (tells_more, noise_for, game_against, same_news, lambda one, two: noise_holds(one, two, None),
                         lambda one, two: game_holds(one, two, None), lambda one, two: best_news([two, two, one])):
            for other in (SURE[:1], SURE + SURE[:1]):
                with self.assertRaises(NotAlike):
                    function(SURE, other)


class TellsMoreTest(unittest.TestCase):
    def judge(self, news, other):
        """Just one of a noise and a game is there, and it holds; returns whether it is the noise."""
        noise, game = noise_for(news, other), game_against(news, other)
        self.assertNotEqual(noise is None, game is None)
        self.assertIs(tells_more(news, other), noise is not None)
        if noise is None:
            self.assertIs(game_holds(news, other, game), True)
            self.assertIs(game_holds(other, news, game), False)
            leaning, actions = game
            won, lost = [Fraction(*news_worth(told, leaning, actions)) for told in (other, news)]
            self.assertGreater(won, lost)
        else:
            self.assertIs(noise_holds(news, other, noise), True)
            self.assertEqual(noisy(news, noise), in_lowest_terms(other))
            self.assertEqual(noise, in_lowest_terms(noise))
        return noise is not None

    def test_the_example(self):
        self.assertIs(self.judge(SURE, VAGUE), True)
        self.assertEqual(noise_for(SURE, VAGUE), SURE)
        self.assertIs(self.judge(VAGUE, SURE), False)
        self.assertIs(game_holds(VAGUE, SURE, (HALVES, MATCH)), True)

    def test_all_and_nothing(self):
        for news in (SURE, VAGUE, ALL, NOTHING):
            self.assertIs(self.judge(ALL, news), True)
            self.assertIs(self.judge(news, NOTHING), True)
            self.assertIs(self.judge(news, ALL), news == ALL)
            self.assertIs(self.judge(NOTHING, news), news == NOTHING)
            self.assertIs(same_news(news, news), True)
        self.assertIs(self.judge((((1, 1),),), (((1, 3), (2, 3)),)), True)
        self.assertIs(same_news((((1, 1),),), (((1, 3), (2, 3)),)), True)

    def test_neither_tells_more(self):
        one = (((1, 1), (0, 1)), ((0, 1), (1, 1)), ((0, 1), (1, 1)))
        other = (((1, 1), (0, 1)), ((1, 1), (0, 1)), ((0, 1), (1, 1)))
        self.assertIs(self.judge(one, other), False)
        self.assertIs(self.judge(other, one), False)
        self.assertIs(same_news(one, other), False)

    def test_made_up_tables(self):
        told = 0
        for seed in range(120):
            made = random.Random(seed)
            rows, columns, others = [made.randint(1, 4) for _ in range(3)]
            news = made_news(made, rows, columns)
            other = made_news(made, rows, others) if seed % 2 else noisy(news, made_news(made, columns, others))
            found = self.judge(news, other)
            self.assertTrue(found or seed % 2)
            told += found
            self.judge(other, news)
        self.assertGreater(told, 60)
        self.assertLess(told, 110)

    def test_six_rows_and_six_columns(self):
        for seed in range(6):
            made = random.Random(seed)
            news = made_news(made, 6, 6, 99)
            other = noisy(news, made_news(made, 6, 6, 99))
            self.assertIs(self.judge(news, other), True)
            self.judge(other, news)
            self.judge(news, made_news(made, 6, 6, 99))

    def test_sixty_digits(self):
        made = random.Random(1)
        whole = 10 ** 59 + 7
        news = []
        for _ in range(3):
            low, high = sorted(made.randint(0, whole) for _ in range(2))
            news.append(((low, whole), (high - low, whole), (whole - high, whole)))
        self.assertIs(self.judge(tuple(news), noisy(tuple(news), SURE + SURE[:1])), True)
        self.assertIs(self.judge(SURE + SURE[:1], tuple(news)), False)


class HoldsTest(unittest.TestCase):
    def test_noises_with_one_thing_wrong(self):
        for thing in (VAGUE, ALL, SURE[::-1], SURE[:1], SURE + SURE[:1], NOTHING, list(SURE), (SURE,), *OTHERS):
            self.assertIs(noise_holds(SURE, VAGUE, thing), False, thing)
        self.assertIs(noise_holds(SURE, VAGUE, (((6, 8), (2, 8)), ((1, 4), (9, 12)))), True)
        self.assertIs(noise_holds(in_lowest_terms(SURE), (((10, 16), (6, 16)), ((3, 8), (5, 8))), SURE), True)
        for change in (other_sequence, as_none):
            for thing in changed(SURE, change):
                self.assertIs(noise_holds(SURE, VAGUE, thing), False)
        for row, column in itertools.product(range(2), repeat=2):
            for more in (1, -1):
                parts = [list(told) for told in SURE]
                above, below = parts[row][column]
                parts[row][column] = (above * 1000 + more, below * 1000)
                thing = tuple(tuple(told) for told in parts)
                self.assertIs(noise_holds(SURE, VAGUE, thing), False)
                other = parts[row][1 - column]
                parts[row][1 - column] = (other[0] * 1000 - more, other[1] * 1000)
                self.assertIs(noise_holds(SURE, VAGUE, tuple(tuple(told) for told in parts)), False)

    def test_games_with_one_thing_wrong(self):
        good = (HALVES, MATCH)
        self.assertIs(game_holds(VAGUE, SURE, good), True)
        self.assertIs(game_holds(VAGUE, SURE, (((2, 4), (3, 6)), (((9, 1), (0, 3)), ((0, 1), (9, 1))))), True)
        wrong = [(MATCH, HALVES), [HALVES, MATCH], (HALVES,), (HALVES, MATCH, MATCH), (HALVES, ()), (HALVES, MATCH[:1]),
                 (((1, 1),), MATCH), (((1, 3),) * 3, MATCH), (((1, 1), (0, 1)), MATCH), (((3, 2), (-1, 2)), MATCH),
                 (((1, 2), (1, 3)), MATCH), (HALVES, (MATCH[0], ((1, 1),))), (HALVES, (((1, 1),),)), (HALVES, (MATCH[0],) * 6),
                 (HALVES, MATCH + (MATCH[0],) * 5), (HALVES, (((1, 1),) * 3,) * 2), *OTHERS,
                 (HALVES, tuple((*action, (0, 1)) for action in MATCH)), (HALVES + ((0, 1),), MATCH)]
        for change in (other_sequence, as_none):
            wrong.extend(changed(good, change))
        for thing in wrong:
            self.assertIs(game_holds(VAGUE, SURE, thing), False, thing)
        # As much is not more.
        self.assertIs(game_holds(SURE, SURE, good), False)
        self.assertIs(game_holds(SURE, VAGUE, good), False)


class LeastTest(unittest.TestCase):
    def test_columns(self):
        self.assertEqual(least_news(SURE), SURE)
        self.assertEqual(least_news(tuple(row[::-1] for row in SURE)), SURE)
        split = (((3, 8), (0, 1), (1, 4), (3, 8)), ((1, 8), (0, 9), (3, 4), (2, 16)))
        self.assertEqual(least_news(split), SURE)
        self.assertEqual(least_news((((1, 3), (2, 3)),) * 2), NOTHING)
        self.assertEqual(least_news((((1, 3), (2, 3)),)), (((1, 1),),))
        self.assertEqual(least_news((((0, 1), (1, 1), (0, 1)), ((0, 1), (0, 1), (1, 1)))), ALL)
        self.assertEqual(least_news((((2, 4), (2, 4)), ((0, 3), (3, 3)), ((1, 1), (0, 1)))),
                         (((1, 2), (1, 2)), ((1, 1), (0, 1)), ((0, 1), (1, 1))))

    def test_equal_where_they_are_the_same(self):
        same = 0
        tables = []
        for seed in range(40):
            made = random.Random(seed // 2)
            news = made_news(made, 2, 3, 3)
            if seed % 2:
                news = noisy(news, (((1, 1), (0, 1), (0, 1), (0, 1)), ((0, 1), (0, 1), (1, 3), (2, 3)), ((0, 1), (1, 1), (0, 1), (0, 1))))
            tables.append(news)
        for one, other in itertools.combinations(tables[:24], 2):
            self.assertIs(least_news(one) == least_news(other), same_news(one, other))
            same += same_news(one, other)
        self.assertGreater(same, 10)
        for news in tables:
            least = least_news(news)
            self.assertIs(same_news(news, least), True)
            self.assertEqual(least_news(least), least)
            columns = [[Fraction(*row[at]) for row in least] for at in range(len(least[0]))]
            self.assertEqual(columns, sorted(columns, reverse=True))


class BestTest(unittest.TestCase):
    def test_by_hand(self):
        self.assertEqual(best_news([SURE]), [0])
        self.assertEqual(best_news([VAGUE, SURE, NOTHING]), [1])
        self.assertEqual(best_news([SURE, VAGUE, tuple(row[::-1] for row in SURE), SURE, VAGUE]), [0, 2, 3])
        self.assertEqual(best_news([NOTHING, NOTHING, (((1, 3), (2, 3)),) * 2]), [0, 1, 2])
        self.assertEqual(best_news([NOTHING, VAGUE, SURE, ALL]), [3])
        one = (((1, 1), (0, 1)), ((0, 1), (1, 1)), ((0, 1), (1, 1)))
        other = (((1, 1), (0, 1)), ((1, 1), (0, 1)), ((0, 1), (1, 1)))
        self.assertEqual(best_news([one, (((1, 1),),) * 3, other]), [0, 2])

    def test_lists_that_are_none(self):
        for thing in ([], [SURE] * 7, (SURE, SURE), None, SURE, [None], [SURE, list(SURE)], *OTHERS):
            with self.assertRaises(BadNews):
                best_news(thing)
        self.assertEqual(best_news([SURE] * 6), [0, 1, 2, 3, 4, 5])


if __name__ == "__main__":
    unittest.main()
