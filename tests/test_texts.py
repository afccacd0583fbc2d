"""Texts read and written (6)."""

import random
import re
import unittest

from alikechances.errors import BadProgram, BadText
from alikechances.programs import is_program, size_of
from alikechances.texts import read_program, write_program
from tests import reference
from tests.helpers import (
    CHOICE,
    COIN,
    ONE,
    OTHERS,
    SKIP,
    TRUE,
    VX,
    VY,
    X,
    X_IS_0,
    XY,
    ZERO,
    ifs,
    nots,
    seq,
    sums,
    whiles,
)

WRITTEN = (
    ((X, SKIP), "vars x 2; skip"),
    (((("x", 2), ("longname12", 6)), SKIP), "vars x 2, longname12 6; skip"),
    ((X, ("set", "x", ("num", 10))), "vars x 2; x := 10"),
    ((X, COIN), "vars x 2; draw x from 0 weight 1, 1 weight 1"),
    ((X, ("draw", "x", ((("add", VX, ONE), 99),))), "vars x 2; draw x from (x + 1) weight 99"),
    ((X, CHOICE), "vars x 2; choose x from 0, 1"),
    ((X, ("choose", "x", (VX,))), "vars x 2; choose x from x"),
    ((X, ("see", TRUE)), "vars x 2; see true"),
    ((X, ("if", X_IS_0, SKIP, seq(SKIP, COIN))),
     "vars x 2; if (x is 0) then (skip) else (skip; draw x from 0 weight 1, 1 weight 1)"),
    ((X, ("while", ("not", TRUE), seq(SKIP, SKIP))), "vars x 2; while not true do (skip; skip)"),
    ((XY, seq(SKIP, ("set", "y", VX), SKIP)), "vars x 2, y 2; skip; y := x; skip"),
    ((X, ("set", "x", ("less by", ("times", VX, ONE), ("add", ZERO, VX)))), "vars x 2; x := ((x * 1) - (0 + x))"),
    ((XY, ("set", "x", ("least", VX, ("most", VY, ONE)))), "vars x 2, y 2; x := least(x, most(y, 1))"),
    ((XY, ("see", ("and", ("is", VX, VY), ("below", VY, ONE)))), "vars x 2, y 2; see ((x is y) and (y below 1))"),
    ((X, ("see", ("or", ("not", ("not", X_IS_0)), TRUE))), "vars x 2; see (not not (x is 0) or true)"),
    ((X, ("see", ("is", ("add", ("add", VX, ONE), ONE), ("least", ONE, ZERO)))),
     "vars x 2; see (((x + 1) + 1) is least(1, 0))"),
    ((X, ("see", ("and", ("or", ("below", ("times", VX, VX), ONE), TRUE), X_IS_0))),
     "vars x 2; see ((((x * x) below 1) or true) and (x is 0))"),
)
WORD = re.compile(r"[A-Za-z0-9]+|:=|[^ \n]")
KEYWORDS = ("vars skip draw from weight choose see if then else while do true is below not and or least most").split()
SIGNS = [":=", ";", ",", "(", ")", "+", "-", "*"]
POOL = KEYWORDS + SIGNS + ["x", "y", "0", "7", "99", "X", "100", "07", "1x", "abcdefghijk", ":", "=", "_", "?"]


def kind_of(word):
    if word in KEYWORDS or word in SIGNS:
        return word
    if re.fullmatch("[a-z][a-z0-9]{0,9}", word):
        return "name"
    return "number" if re.fullmatch("0|[1-9][0-9]?", word) else "none"


def spoiled(words, maker):
    words = list(words)
    at = maker.randrange(len(words) + 1)
    pick = maker.randrange(4)
    if pick == 0:
        return words[:at]
    if pick == 1:
        return words[:at] + words[at + 1:]
    return words[:at] + [maker.choice(POOL)] + words[at + (pick == 2):]


def loosely(words, maker):
    """A text of the words with blanks as they come, and the places of the words and of its end."""
    text = maker.choice(("", "", " ", "\n"))
    places = []
    for word in words:
        if (text[-1:].isalnum() and word[0].isalnum()) or (text[-1:], word) == (":", "="):
            text += maker.choice((" ", "\n", "  "))
        else:
            text += maker.choice(("", "", " ", "\n "))
        places.append(len(text))
        text += word
    text += maker.choice(("", " ", "\n\n"))
    return text, places + [len(text)]


class WritingTest(unittest.TestCase):
    def test_sign_for_sign_and_back(self):
        for made, text in WRITTEN:
            self.assertTrue(is_program(made))
            self.assertEqual(write_program(made), text)
            self.assertEqual(read_program(text), made)
            self.assertEqual(write_program(program=made), text)
            self.assertEqual(read_program(text=text), made)

    def test_bad_programs(self):
        for thing in OTHERS + ((X, seq(SKIP)), (X, ("set", "y", ONE)), (X, ifs(12)), (X, ("see", nots(10)))):
            if thing != (X, SKIP):
                with self.assertRaises(BadProgram):
                    write_program(thing)

    def test_long_ones_are_written_and_not_read(self):
        condition = TRUE
        for _ in range(6):
            condition = ("and", condition, condition)
        made = (X, ("seq", (("see", condition),) * 60))
        text = write_program(made)
        self.assertGreater(len(text), 4000)
        with self.assertRaises(BadText) as caught:
            read_program(text)
        self.assertEqual(caught.exception.place, -1)

    def test_made_up_programs(self):
        for seed in range(150):
            maker = reference.Maker(seed, ("skip", "set", "draw", "choose", "see", "if", "while", "seq"))
            made = maker.program()
            text = write_program(made)
            self.assertEqual(read_program(text), made)
            loose, _ = loosely(WORD.findall(text), random.Random(seed))
            self.assertEqual(read_program(loose), made)


class ReadingTest(unittest.TestCase):
    def place(self, text):
        with self.assertRaises(BadText) as caught:
            read_program(text)
        return caught.exception.place

    def check_place(self, text):
        """The place is where a ^ stands in the text, which is left out of it."""
        at = text.index("^")
        plain = text[:at] + text[at + 1:]
        self.assertEqual(self.place(plain), at, plain)

    def test_blanks_and_line_feeds(self):
        self.assertEqual(read_program(" \n vars\nx   2\n,y 3;\n\nskip \n"), ((("x", 2), ("y", 3)), SKIP))
        self.assertEqual(
            read_program("vars x 2,y 2;x:=(x+1);draw x from(x-1)weight 1,least (x,y)weight 2;see(x is y)"),
            read_program("vars x 2, y 2; x := (x + 1); draw x from (x - 1) weight 1, least(x, y) weight 2; see (x is y)"),
        )
        self.assertEqual(
            read_program("vars x 2;if(x is 0)then(skip)else(while not(x is 0)do(x:=( ( x*2 ) + most\n(1,x ) )) )"),
            read_program("vars x 2; if (x is 0) then (skip) else (while not (x is 0) do (x := ((x * 2) + most(1, x))))"),
        )
        self.assertEqual(read_program("vars x 2; see not(true and not true)")[1],
                         ("see", ("not", ("and", TRUE, ("not", TRUE)))))

    def test_words_have_to_be_parted(self):
        for text in ("^varsx 2; skip", "vars x2^; skip", "vars x 2; skipx^", "vars x 2; see ^nottrue",
                     "vars x 2; draw x from ^0weight 1", "vars x 2; see (x ^is0)",
                     "vars x 2; draw x from 0 weight ^1draw x from 0 weight 1"):
            self.check_place(text)

    def test_words_that_are_none(self):
        for bad in ("abcdefghijk", "X", "xY", "Xx", "VARS", "Skip", "100", "007", "00", "01", "1x", "2ab",
                    "a" * 300, "12345678901"):
            self.check_place(f"^{bad}")
            self.check_place(f"vars ^{bad} 2; skip")
            self.check_place(f"vars x ^{bad}; skip")
            self.check_place(f"vars x 2^{bad}; skip" if not bad[0].isalnum() else f"vars x 2 ^{bad}; skip")
            self.check_place(f"vars x 2; ^{bad} := 1")
            self.check_place(f"vars x 2; x := ^{bad}")
            self.check_place(f"vars x 2; x := (1 + ^{bad})")
            self.check_place(f"vars x 2; x ^{bad} 1")
            self.check_place(f"vars x 2; draw ^{bad} from 1 weight 1")
            self.check_place(f"vars x 2; draw x from 1 weight ^{bad}")
            self.check_place(f"vars x 2; see ^{bad}")
            self.check_place(f"vars x 2; see (^{bad} is 1)")
            self.check_place(f"vars x 2; see (x ^{bad} 1)")
            self.check_place(f"vars x 2; skip ^{bad}")

    def test_signs_that_are_none(self):
        for bad in ("_", "?", "=", ":", ".", "/", "<", "[", "#", "~", "!", '"', "'", "|", ": =", "::=", "=:"):
            self.check_place(f"vars x 2; x ^{bad} 1")
            self.check_place(f"vars x 2; x := ^{bad}")
            self.check_place(f"vars x^{bad} 2; skip")
            self.check_place(f"vars x 2; skip^{bad}")
        self.check_place("vars x 2; x := (1 ^= 1)")
        self.check_place("vars x^_1 2; skip")
        self.check_place("vars x 2; x ^: = 1")

    def test_words_that_cannot_stand_there(self):
        for text in (
            "^skip", "^x 2; skip", "vars ^vars 2; skip", "vars ^2 x; skip", "vars x^, y 2; skip", "vars ^; skip",
            "vars x ^y 2; skip", "vars x 2 ^y 3; skip", "vars x 2,^; skip", "vars x 2^: skip", "vars x 2; ^vars",
            "vars x 2; ^then", "vars x 2; ^2", "vars x 2; ^; skip", "vars x 2; skip; ^; skip",
            "vars x 2; ^(skip)", "vars x 2; x ^is 1", "vars x 2; x^; skip", "vars x 2; x := ^true",
            "vars x 2; x := ^skip", "vars x 2; x := 1 ^+ 1", "vars x 2; x := (1^)", "vars x 2; x := (1 ^is 1)",
            "vars x 2; x := (1 + 1 ^+ 1)", "vars x 2; x := -1".replace("-", "^-"), "vars x 2; x := least ^1, 1)",
            "vars x 2; x := least(1^)", "vars x 2; x := least(1, 1^, 1)", "vars x 2; x := most(1 ^+ 1, 1)",
            "vars x 2; x := (^not 1)", "vars x 2; draw ^draw from 1 weight 1", "vars x 2; draw x ^1 weight 1",
            "vars x 2; draw x from ^weight 1", "vars x 2; draw x from 1^, 2", "vars x 2; draw x from 1 ^1",
            "vars x 2; draw x from 1 weight ^x", "vars x 2; draw x from 1 weight 1 ^weight 1",
            "vars x 2; draw x from 1 weight 1, ^", "vars x 2; draw x from 1 weight 1, ^; skip",
            "vars x 2; draw x from 1 weight ^(1 + 1)", "vars x 2; choose x from 1 ^weight 1",
            "vars x 2; choose x from ^true", "vars x 2; choose x from 1, 2^)", "vars x 2; see ^x",
            "vars x 2; see ^1", "vars x 2; see ^skip", "vars x 2; see (x ^+ 1)", "vars x 2; see (x^)",
            "vars x 2; see (x ^and true)", "vars x 2; see (true ^is 1)", "vars x 2; see (true^)",
            "vars x 2; see ((x + 1) ^+ 1)", "vars x 2; see ((x + 1) ^and true)", "vars x 2; see ((x is 1) ^is 1)",
            "vars x 2; see ((x is 1) ^+ 1)", "vars x 2; see ((x is 1)^)", "vars x 2; see (x is ^true)",
            "vars x 2; see (x is 1 ^and true)", "vars x 2; see (true and ^x)", "vars x 2; see (true and (x ^+ 1))",
            "vars x 2; see (true and true ^and true)", "vars x 2; see (((x is 1) or true) ^below 1)",
            "vars x 2; see (((x * 1) ^or true) and true)", "vars x 2; see not ^x", "vars x 2; see (not true ^is 1)",
            "vars x 2; see (least(x, 1) ^and true)", "vars x 2; see true ^and true", "vars x 2; see ^least(1, 1)",
            "vars x 2; see (^skip is 1)", "vars x 2; see (^)", "vars x 2; if true ^(skip) else (skip)",
            "vars x 2; if true then ^skip else (skip)", "vars x 2; if true then (skip)^; skip",
            "vars x 2; if true then (skip) ^then (skip)", "vars x 2; if true then (^) else (skip)",
            "vars x 2; if true then (skip;^) else (skip)", "vars x 2; while true ^then (skip)",
            "vars x 2; while true do ^skip", "vars x 2; while true do (skip)^)", "vars x 2; while ^do (skip)",
            "vars x 2; skip^)", "vars x 2; skip ^skip", "vars x 2; skip ^1", "vars x 2; skip ^, skip",
            "vars x 2; seq^; skip", "vars x 2; skip; skip ^vars x 2; skip", "vars x 2; x := x ^y",
        ):
            self.check_place(text)

    def test_texts_that_end_too_early(self):
        whole = ("vars x 2; if ((x + 1) is least(1, 2)) then (draw x from 0 weight 1, 1 weight 1; skip) "
                 "else (while not true do (choose x from 0, 1; see (true or false1)))").replace("false1", "true")
        words = list(WORD.finditer(whole))
        for many in range(len(words)):
            end = words[many].start()
            self.assertEqual(self.place(whole[:end]), end, whole[:end])
            self.assertEqual(self.place(whole[:end] + " \n"), end + 2)
        read_program(whole)
        for text in ("", " ", "\n\n"):
            self.assertEqual(self.place(text), len(text))

    def test_no_such_str(self):
        for thing in OTHERS + (b"vars x 2; skip", ["vars x 2; skip"]):
            if not isinstance(thing, str):
                self.assertEqual(self.place(thing), -1)
        for sign in ("\t", "\r", "\u00e9", "\x00", "\x7f", "\u2028", "\u0660", "\U0001f600", "\x0b", "\x1f", "\u00a0"):
            self.assertEqual(self.place(f"vars x 2; skip{sign}"), -1)
            self.assertEqual(self.place(f"? {sign}"), -1)
        self.assertEqual(read_program("vars x 2; skip".ljust(4000)), (X, SKIP))
        self.assertEqual(self.place("vars x 2; skip".ljust(4001)), -1)
        self.assertEqual(self.place("?" * 4000), 0)
        self.assertEqual(self.place("?" * 4001), -1)

    def test_the_form_lets_it_stand_but_it_is_no_program(self):
        many = "; ".join(["skip"] * 61)
        for text in (
            "vars x 1; skip", "vars x 7; skip", "vars x 0; skip", "vars x 99; skip", "vars x 2, x 2; skip",
            "vars x 5, y 5; skip", "vars a 2, b 2, c 2, d 2, e 2; skip", "vars x 2; y := 1", "vars x 2; x := y",
            "vars x 2; see (y is 1)", "vars x 2; choose y from 1", "vars x 2; draw x from 0 weight 0",
            "vars x 2; draw x from " + ", ".join(["0 weight 1"] * 7), "vars x 2; choose x from 1, 1, 1, 1, 1, 1, 1",
            f"vars x 2; {many}", f"vars x 2; while true do ({many})",
            "vars x 2; " + "while true do (" * 12 + "skip" + ")" * 12, "vars x 2; see " + "not " * 10 + "true",
            "vars x 2; x := " + "(" * 10 + "1" + " + 1)" * 10, "vars x 2; see (" + "(" * 9 + "1" + " + 1)" * 9 + " is 1)",
        ):
            with self.assertRaises(BadProgram):
                read_program(text)

    def test_what_is_just_within_the_bounds(self):
        for text in (
            "vars x 6, y 4; skip", "vars a 2, b 2, c 2, d 3; skip", "vars x 2; draw x from 0 weight 99",
            "vars x 2; draw x from " + ", ".join(["0 weight 1"] * 6), "vars x 2; " + "; ".join(["skip"] * 60),
            "vars x 2; " + "while true do (" * 11 + "skip" + ")" * 11, "vars x 2; see " + "not " * 9 + "true",
            "vars x 2; x := " + "(" * 9 + "1" + " + 1)" * 9,
        ):
            self.assertTrue(is_program(read_program(text)))

    def test_texts_nested_as_deep_as_they_can_be(self):
        for text in (
            "vars x 2; see " + "not " * 990 + "true", "vars x 2; x := " + "(" * 700 + "1" + "+1)" * 700,
            "vars x 2; " + "while true do(" * 250 + "skip" + ")" * 250,
            "vars x 2; see " + "(" * 390 + "true" + " or true)" * 390,
        ):
            self.assertLessEqual(len(text), 4000)
            with self.assertRaises(BadProgram):
                read_program(text)
        for text in ("vars x 2; see " + "(" * 3986, "vars x 2; x := " + "(" * 3985, "vars x 2; x := " + "least(" * 664):
            self.assertEqual(self.place(text), len(text))

    def test_the_form_goes_ahead_of_the_bounds(self):
        self.check_place("vars x 9; y := ^true")
        self.check_place("vars x 2; x := 1; " + "skip; " * 70 + "^")

    def test_least_and_most(self):
        for text in ("least(1, 0)", "least (1, 0)", "least\n (1,0)", "most(1, 0)", "most  ( 1 , 0 )"):
            made = read_program(f"vars x 2; x := {text}")
            self.assertEqual(made[1], ("set", "x", (text[:5].strip(" (\n"), ONE, ZERO)))
            self.assertNotIn(" (", write_program(made))

    def test_seqs(self):
        self.assertEqual(size_of(read_program("vars x 2; skip; if true then (skip; skip) else (skip); skip")), 6)
        self.assertEqual(read_program("vars x 2; while true do (skip; skip)")[1], ("while", TRUE, seq(SKIP, SKIP)))

    def test_spoiled_texts(self):
        for seed in range(120):
            maker = reference.Maker(seed, ("skip", "set", "draw", "choose", "see", "see", "if", "while", "seq"))
            words = WORD.findall(write_program(maker.program(3)))
            if len(words) > 90:
                continue
            for _ in range(3):
                self.check_spoiled(spoiled(words, maker.random), maker.random)

    def check_spoiled(self, words, maker):
        text, places = loosely(words, maker)
        wrong = reference.first_wrong([kind_of(word) for word in words])
        if wrong is not None:
            self.assertEqual(self.place(text), places[wrong], text)
            return
        try:
            read_program(text)
        except BadProgram:
            pass

    def test_bounds_of_what_is_made_by_hand(self):
        self.assertEqual(read_program(write_program((X, whiles(11)))), (X, whiles(11)))
        self.assertEqual(read_program(write_program((X, ("set", "x", sums(9))))), (X, ("set", "x", sums(9))))


if __name__ == "__main__":
    unittest.main()
