"""Equations over unknowns from 0 on: numbers that fulfil them, or what shows that there are none."""

from math import gcd

from alikechances.exact import NOTHING, lowest
from alikechances.rows import simplest


class Balance:
    """Equations over unknowns from 0 on, each with a further unknown, which takes all that is wanted at first.

    A line is an equation of integers, any multiple of which means the same: an
    entry for each unknown, one for each further one, one for the sum of the
    further ones, then what is wanted. In `held` stands for each line the unknown
    that it tells, all others being 0; `growth` is the line that tells the sum of
    the further ones: entries above 0 for those with which it grows.
    """

    def __init__(self, lines, wanted):
        many = len(lines)
        self.unknowns = len(lines[0])
        self.held = [self.unknowns + at for at in range(many)]
        self.lines = []
        for at in range(many):
            further = [1 if other == at else 0 for other in range(many)]
            self.lines.append(lines[at] + further + [0, wanted[at]])
        growth = [-sum([line[at] for line in lines]) for at in range(self.unknowns)]
        self.growth = growth + [0] * many + [1, -sum(wanted)]

    def settle(self):
        """Lets the sum of the further unknowns fall as far as it can."""
        column = self.entering()
        while column is not None:
            self.turn(self.leaving(column), column)
            column = self.entering()

    def entering(self):
        """The first unknown with which the sum falls, None without one; by the first it comes to an end."""
        for at in range(self.unknowns):
            if self.growth[at] < 0:
                return at
        return None

    def leaving(self, column):
        """The number of the line whose unknown falls to 0 first if one grows, the first unknown of several."""
        found = None
        for at, line in enumerate(self.lines):
            if line[column] > 0 and (found is None or self.is_sooner(at, found, column)):
                found = at
        return found

    def is_sooner(self, at, other, column):
        """Whether the unknown of a line falls to 0 ahead of that of another one."""
        one = self.lines[at][-1] * self.lines[other][column]
        two = self.lines[other][-1] * self.lines[at][column]
        return one < two or (one == two and self.held[at] < self.held[other])

    def turn(self, at, column):
        """Lets a line tell an unknown that was 0, and takes that out of all others."""
        pivot = self.lines[at]
        self.lines = [
            line if other == at else without(line, pivot, column) for other, line in enumerate(self.lines)
        ]
        self.growth = without(self.growth, pivot, column)
        self.held[at] = column

    def solution(self):
        """The unknowns as they are."""
        told = {held: lowest(line[-1], line[held]) for held, line in zip(self.held, self.lines)}
        return [told.get(at, NOTHING) for at in range(self.unknowns)]

    def against(self):
        """For each equation a fraction: the sum of these multiples has no entry above 0, but wants more than 0."""
        whole = self.growth[-2]
        return [lowest(whole - growth, whole) for growth in self.growth[self.unknowns:-2]]


def without(line, pivot, column):
    """A line without the unknown that another one tells, whose entry for it is above 0."""
    share = line[column]
    if not share:
        return line
    factor = pivot[column]
    shared = gcd(factor, share)
    factor //= shared
    share //= shared
    return simplest([factor * entry - share * other for entry, other in zip(line, pivot)])


def balanced(lines, wanted):
    """The tuple (numbers, None) for unknowns that fulfil equations, or (None, multiples) that show there are none.

    All entries are integers, those wanted from 0 on.
    """
    balance = Balance(lines, wanted)
    balance.settle()
    if balance.growth[-1] == 0:
        return (balance.solution(), None)
    return (None, balance.against())
