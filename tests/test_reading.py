"""Point 22: what is read."""

import unittest

from ringvouch.errors import NoText
from ringvouch.reading import read_plan, read_ring, read_rule
from ringvouch.rules import Rule, one_way_rule, plain_rule
from ringvouch.showing import show_plan, show_ring, show_rule
from tests.samples import oddities, small_rules

GOOD = "marks 4\nmirror 0 1\nmirror 2 3\nstep 0 2\nstep 3 1"
# Figures and blanks of other kinds than those of point 22.
STRANGE_FIGURES = ("\u0661", "\u00b2", "\uff11", "\u2460", "+1", "-1", "1.0", "1_0", "0x1", "1e0", " 1", "1\t", "\u00a01", "")
NO_NUMBERS = STRANGE_FIGURES + ("00", "01", "-", "a", "1\r", "1\x00", "1,", "0" * 30, "1" * 31, "9" * 5000)


class NoTextTest(unittest.TestCase):
    def refuses(self, read, text, row):
        with self.assertRaises(NoText) as caught:
            read(text)
        self.assertIs(type(caught.exception), NoText)
        self.assertEqual(caught.exception.row, row)
        self.assertIs(type(caught.exception.row), int)


class RuleTest(NoTextTest):
    def refused(self, text, row):
        self.refuses(read_rule, text, row)

    def test_what_is_read(self):
        self.assertEqual(read_rule(GOOD), Rule((1, 0, 3, 2), ((0, 2), (3, 1))))
        self.assertEqual(read_rule("marks 1"), plain_rule(1, ()))
        self.assertEqual(read_rule("marks 8\nstep 7 7"), plain_rule(8, ((7, 7),)))
        self.assertEqual(read_rule("marks 2\nmirror 0 1"), Rule((1, 0), ()))
        self.assertEqual(read_rule(text="marks 2\nmirror 0 1\nstep 0 0\nstep 1 1"), one_way_rule(1, ((0, 0),)))
        self.assertEqual(read_rule("marks 5\nmirror 0 4\nmirror 1 3"), Rule((4, 3, 2, 1, 0), ()))

    def test_what_is_no_text(self):
        for thing in oddities() + [GOOD.encode(), [GOOD], (GOOD,), GOOD.split("\n")]:
            if not isinstance(thing, str):
                self.refused(thing, 0)

    def test_the_first_row(self):
        for text in (
            "", "\n", " ", "marks", "marks ", "marks  1", " marks 1", "marks 1 ", "marks 1 1", "mark 1", "Marks 1",
            "marks 0", "marks 9", "marks 10", "marks 08", "marks\t1", "marks -1", "marks x", "marks 1\r", "step 0 0",
            "mirror 0 1", "marks 1.0", "marks 100000000000000000000000000000", "1", "marks,1", "0", "marks 1\x0b",
        ):
            self.refused(text, 0)
            self.refused(text + "\nstep 0 0\nnothing", 0)
            self.refused(text + "\nmarks 1", 0)
        for number in NO_NUMBERS:
            self.refused("marks " + number, 0)

    def test_later_rows_of_none_of_the_forms(self):
        for row in (
            "", " ", "step", "step ", "step 0", "step 0 ", "step  0 1", "step 0  1", " step 0 1", "step 0 1 ", "step 0 1 2",
            "steps 0 1", "Step 0 1", "step 0,1", "step 0.1", "step\t0 1", "mirror", "mirror 0", "mirror 0 1 2", "mirror 0 1 ",
            "mirror  0 1", " mirror 0 1", "mirrors 0 1", "marks", "marks 4", "marks 5", "x", "0 1", "step 0 1\r", "-",
            "step a 1", "step 0 b", "mirror a 1", "mirror 0 b", "step - 0", "\x0b", "step 0 1\x0c", "step 00 1", "mirror 0 01",
        ):
            self.refused("marks 4\n" + row, 1)
            self.refused("marks 4\n" + row + "\nnothing\nstep 9 9", 1)
            self.refused("marks 4\nmirror 2 3\n" + row, 2)
            self.refused("marks 4\nstep 0 0\n" + row, 2)

    def test_numbers_otherwise_written(self):
        for number in NO_NUMBERS + ("4", "5", "10", "9" * 30):
            self.refused(f"marks 4\nstep {number} 1", 1)
            self.refused(f"marks 4\nstep 1 {number}", 1)
            self.refused(f"marks 4\nmirror 0 {number}", 1)
            self.refused(f"marks 4\nmirror {number} 3", 1)

    def test_numbers_not_below_n(self):
        for many in range(1, 9):
            last = many - 1
            self.assertEqual(read_rule(f"marks {many}\nstep {last} {last}").marks(), many)
            self.refused(f"marks {many}\nstep {last} {many}", 1)
            self.refused(f"marks {many}\nstep {many} {last}", 1)
            self.refused(f"marks {many}\nmirror {last} {many}", 1)

    def test_a_line_feed_at_the_end(self):
        self.refused(GOOD + "\n", 5)
        self.refused("marks 1\n", 1)
        self.refused("marks 2\nmirror 0 1\n", 2)
        self.refused("marks 2\n\nmirror 0 1", 1)
        self.refused("\nmarks 1", 0)

    def test_rows_that_do_not_rise(self):
        self.refused("marks 4\nstep 0 0\nstep 0 0", 2)
        self.refused("marks 4\nstep 1 1\nstep 0 0", 2)
        self.refused("marks 4\nstep 1 1\nstep 1 0", 2)
        self.refused("marks 4\nmirror 2 3\nmirror 0 1", 2)
        self.refused("marks 4\nstep 0 0\nstep 2 2\nstep 1 1\nstep 3 3", 3)
        self.refused("marks 8\nmirror 0 7\nmirror 2 3\nmirror 1 4", 3)
        self.refused("marks 4\nmirror 0 1\nmirror 0 1", 2)
        self.assertEqual(read_rule("marks 4\nstep 0 3\nstep 1 1\nstep 3 0").steps, ((0, 3), (1, 1), (3, 0)))

    def test_mirror_rows(self):
        self.refused("marks 4\nmirror 1 0", 1)
        self.refused("marks 4\nmirror 1 1", 1)
        self.refused("marks 4\nmirror 3 2", 1)
        self.refused("marks 4\nmirror 0 1\nmirror 0 2", 2)
        self.refused("marks 4\nmirror 0 1\nmirror 1 2", 2)
        self.refused("marks 4\nmirror 0 2\nmirror 1 2", 2)
        self.refused("marks 6\nmirror 0 5\nmirror 1 2\nmirror 3 5", 3)
        self.refused("marks 4\nstep 2 2\nmirror 0 1", 2)
        self.refused("marks 4\nmirror 0 1\nstep 2 2\nstep 3 3\nmirror 2 3", 4)
        self.refused("marks 4\nmirror 0 1\nmarks 4", 2)
        self.refused("marks 4\nstep 2 2\nmarks 4", 2)

    def test_a_step_whose_mirror_step_lacks(self):
        self.refused("marks 2\nstep 0 1", 2)
        self.refused("marks 2\nstep 1 0", 2)
        self.refused("marks 3\nstep 0 1\nstep 1 0\nstep 1 2", 4)
        self.refused("marks 2\nmirror 0 1\nstep 0 0", 3)
        self.refused("marks 4\nmirror 0 1\nmirror 2 3\nstep 0 2", 4)
        self.assertEqual(read_rule("marks 2\nmirror 0 1\nstep 0 1").steps, ((0, 1),))

    def test_the_first_row_that_cannot_stand_comes_ahead_of_a_lacking_step(self):
        self.refused("marks 2\nstep 0 1\nstep 0 0", 2)
        self.refused("marks 2\nstep 0 1\nstep 1 2\nstep 0 0", 2)
        self.refused("marks 2\nstep 0 1\n", 2)

    def test_every_text_with_one_sign_otherwise(self):
        # Whatever is let by is just so written as it is shown.
        for at in range(len(GOOD) + 1):
            for sign in " \n0123459-.ms":
                for text in (GOOD[:at] + sign + GOOD[at:], GOOD[:at] + sign + GOOD[at + 1:], GOOD[:at] + GOOD[at + 1:]):
                    try:
                        rule = read_rule(text)
                    except NoText as refused:
                        rows = text.split("\n")
                        self.assertTrue(0 <= refused.row <= len(rows))
                        # What stands ahead of the row can stand there: it is refused no sooner.
                        if 0 < refused.row < len(rows):
                            ahead = "\n".join(rows[:refused.row])
                            try:
                                read_rule(ahead)
                            except NoText as sooner:
                                self.assertEqual(sooner.row, refused.row)
                    else:
                        self.assertEqual(show_rule(rule), text)

    def test_asked_again(self):
        for rule in small_rules()[::50]:
            self.assertEqual(read_rule(show_rule(rule)), read_rule(show_rule(rule)))


class RingTest(NoTextTest):
    def refused(self, text):
        self.refuses(read_ring, text, 0)

    def test_what_is_read(self):
        self.assertEqual(read_ring("3*0.1 1*2"), ((3, (0, 1)), (1, (2,))))
        self.assertEqual(read_ring("1*7"), ((1, (7,)),))
        self.assertEqual(read_ring(text="9" * 30 + "*0.0"), ((10 ** 30 - 1, (0, 0)),))
        self.assertEqual(read_ring("1*0 1*0"), ((1, (0,)), (1, (0,))))

    def test_what_is_not_so_written(self):
        for text in (
            "", "-", " ", "1*-", "1*", "*0", "*", "1", "0.1", "0*1", "1*8", "1*0.8", "1*10", "01*0", "1*00", "1*0.", "1*.0",
            "1*0..1", " 1*0", "1*0 ", "1*0  1*0", "1*0\n1*0", "1*0\n", "1**0", "1*0*1", "1 *0", "1* 0", "1*0,1", "1*0 1",
            "1*0 -", "x*0", "1*x", "-1*0", "+1*0", "1*-1", "1*0/1", "1" * 31 + "*0", "1" + "0" * 30 + "*0", "1*0 2*", "1*0\t1*0",
            "1*0 0*0", "9" * 5000 + "*0", "1*" + "0" * 5000,
        ):
            self.refused(text)
        for number in NO_NUMBERS:
            self.refused(f"{number}*0")
            if number != "1.0":
                self.refused(f"1*{number}")
                self.refused(f"1*0.{number}")

    def test_what_is_no_text(self):
        for thing in oddities() + [b"1*0", ((1, (0,)),), ["1*0"]]:
            if not isinstance(thing, str) or thing in ("", "0", "01"):
                self.refused(thing)

    def test_every_text_with_one_sign_otherwise(self):
        good = "30*0.1.7 1*2 12*0"
        for at in range(len(good) + 1):
            for sign in " \n0189-.*/":
                for text in (good[:at] + sign + good[at:], good[:at] + sign + good[at + 1:], good[:at] + good[at + 1:]):
                    try:
                        ring = read_ring(text)
                    except NoText as refused:
                        self.assertEqual(refused.row, 0)
                    else:
                        self.assertEqual(show_ring(ring), text)


class PlanTest(NoTextTest):
    def refused(self, text):
        self.refuses(read_plan, text, 0)

    def test_what_is_read(self):
        self.assertEqual(read_plan("0/1 2/0"), ((0, 1), (2, 0)))
        self.assertEqual(read_plan("-"), ())
        self.assertEqual(read_plan(text="9" * 30 + "/10"), ((10 ** 30 - 1, 10),))

    def test_what_is_not_so_written(self):
        for text in (
            "", " ", "--", "- -", "0/1 -", "- 0/1", "0", "0/", "/0", "/", "0/1/2", "0//1", "0/1  2/0", " 0/1", "0/1 ", "0/1\n",
            "0/1\n2/0", "00/1", "0/01", "0 /1", "0/ 1", "-1/0", "0/-1", "0.1/1", "0/1.0", "0*1", "x/0", "0/x", "0/1,2/0",
            "1" * 31 + "/0", "0/" + "1" * 31, "1" + "0" * 30 + "/0", "9" * 5000 + "/0", "(0, 1)",
        ):
            self.refused(text)
        for number in NO_NUMBERS:
            self.refused(f"{number}/0")
            self.refused(f"0/{number}")
            self.refused(f"0/0 0/{number}")

    def test_what_is_no_text(self):
        for thing in oddities() + [b"0/1", ((0, 1),), b"-"]:
            if not isinstance(thing, str) or thing in ("", "0", "01"):
                self.refused(thing)

    def test_every_text_with_one_sign_otherwise(self):
        good = "0/1 20/0 3/12"
        for at in range(len(good) + 1):
            for sign in " \n0189-./":
                for text in (good[:at] + sign + good[at:], good[:at] + sign + good[at + 1:], good[:at] + good[at + 1:]):
                    try:
                        plan = read_plan(text)
                    except NoText as refused:
                        self.assertEqual(refused.row, 0)
                    else:
                        self.assertEqual(show_plan(plan), text)
