"""News tables: how likely what is told is, for each thing that can be so, and which of two tells more."""

from math import lcm

from alikechances.checks import (
    need_game,
    need_leaning,
    need_names,
    need_news,
    need_news_list,
    need_no_choices,
    need_noise,
    need_program,
    need_states,
    need_two_news,
)
from alikechances.errors import Lost, TooMany
from alikechances.exact import is_at_most, lowest
from alikechances.fits import (
    need_alike_news,
    need_fitting_game,
    need_fitting_leaning,
    need_fitting_noise,
    need_fitting_states,
    need_known_names,
)
from alikechances.flows import program_rows
from alikechances.kinds import MOST_COLUMNS, is_game_alone, is_leaning, is_news, is_tuple_of
from alikechances.noises import game_between, mean_won, multiplied, noise_between
from alikechances.reckoning import all_states
from alikechances.rows import simplest
from alikechances.views import View


def news_of(program, states, names):
    """The news table of states ahead, by the values of names behind."""
    need_program(program)
    need_states(states)
    need_names(names)
    need_no_choices(program)
    need_fitting_states(states, program[0])
    need_known_names(names, program[0])
    by_state = {state: row for state, row in zip(all_states(program[0]), program_rows(program))}
    rows = [by_state[state] for state in states]
    if any([row[-1] or row[-2] for row in rows]):
        raise Lost("something is refused or never ends")
    view = View(program[0], names)
    seen = [view.row(row)[:-2] for row in rows]
    columns = [at for at in range(len(view.seen)) if any([row[at] for row in seen])]
    if len(columns) > MOST_COLUMNS:
        raise TooMany("more than six columns come")
    return tuple([tuple([lowest(row[at], sum(row)) for at in columns]) for row in seen])


def noisy(news, noise):
    """What is told at the end if what a news table tells is told on by a noise."""
    need_news(news)
    need_noise(noise)
    need_fitting_noise(noise, news)
    return multiplied(news, noise)


def news_worth(news, leaning, game):
    """The greatest mean of a game for one who is told what a news table tells."""
    need_news(news)
    need_leaning(leaning)
    need_game(game)
    need_fitting_leaning(leaning, news)
    need_fitting_game(game, len(news))
    return mean_won(news, leaning, game)


def need_two(news, other):
    """BadNews for either that is none, then NotAlike for different numbers of rows."""
    need_two_news(news, other)
    need_alike_news(news, other)


def tells_more(news, other):
    """Whether the first news table is worth as much as the second one in every game and for all leanings."""
    need_two(news, other)
    return noise_between(news, other) is not None


def noise_for(news, other):
    """A noise by which the first news table is told on as the second one, None if there is none."""
    need_two(news, other)
    return noise_between(news, other)


def game_against(news, other):
    """A tuple (leaning, game) for which the second news table is worth more, None if there is none."""
    need_two(news, other)
    return game_between(news, other)


def noise_holds(news, other, thing):
    """Whether any object is a noise by which the first news table is told on as the second one."""
    need_two(news, other)
    if not is_news(thing) or len(thing) != len(news[0]):
        return False
    lowest_other = tuple([tuple([lowest(above, below) for above, below in row]) for row in other])
    return multiplied(news, thing) == lowest_other


def game_holds(news, other, thing):
    """Whether any object is a tuple (leaning, game) for which the second news table is worth more."""
    need_two(news, other)
    if not is_tuple_of(thing, 2) or not is_leaning(thing[0]) or not is_game_alone(thing[1]):
        return False
    leaning, game = thing
    if len(leaning) != len(news) or len(game[0]) != len(news):
        return False
    return not is_at_most(mean_won(other, leaning, game), mean_won(news, leaning, game))


def same_news(news, other):
    """Whether each of two news tables tells more of the other one."""
    need_two(news, other)
    return noise_between(news, other) is not None and noise_between(other, news) is not None


def least_news(news):
    """The news table that is the same with fewest columns, these descending."""
    need_news(news)
    whole = 1
    for row in news:
        for _, below in row:
            whole = lcm(whole, below)
    found = {}
    for at in range(len(news[0])):
        column = [row[at][0] * (whole // row[at][1]) for row in news]
        direction = tuple(simplest(column))
        found[direction] = [old + more for old, more in zip(found.get(direction, [0] * len(news)), column)]
    columns = sorted([tuple(column) for column in found.values() if any(column)], reverse=True)
    return tuple([tuple([lowest(column[at], whole) for column in columns]) for at in range(len(news))])


def best_news(tables):
    """The list of the indexes of the news tables of which no other one tells more without being the same."""
    need_news_list(tables)
    for other in tables[1:]:
        need_alike_news(tables[0], other)
    many = range(len(tables))
    more = [[noise_between(news, other) is not None for other in tables] for news in tables]
    return [at for at in many if not any([more[other][at] and not more[at][other] for other in many])]
