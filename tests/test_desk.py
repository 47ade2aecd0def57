"""The desk: each row and what it answers, and what it refuses."""

import random
import unittest

from tests.test_chance import made
from tugline.desk import Desk
from tugline.errors import NoKnob, NoPlace, NoPull, NoRow, NoText, Nothing, TooMany, TugError
from tugline.forms import worth
from tugline.plain import run
from tugline.sources import knobs, line_of, set_to
from tugline.stretches import parting, stretch
from tugline.traced import traced

GREAT = 10 ** 60 - 1


def text(*rows):
    return "\n".join(rows)


SOURCE = text("x = 5", "y = 7", "tell x * !3 + y * !2", "if x < !20", "  tell y // !2", "back y - x")
BARE = "back !4"
ASKS = ("text", "knobs", "run", "forms", "conditions", "stretch 0 5", "parting 0 0 9", "whence 0")
CHANGES = ("pull 0 41 0 -100 100", "set 0 3", "back", "on")


def desk_of(source, *rows):
    desk = Desk()
    for row in ("text\n" + source, *rows):
        if desk.say(row) != "ok":
            raise AssertionError(row)
    return desk


class DeskCase(unittest.TestCase):
    def is_refused(self, desk, row, kind, field):
        with self.assertRaises(kind) as caught:
            desk.say(row)
        self.assertIs(type(caught.exception), kind, row)
        self.assertIsInstance(caught.exception, TugError)
        (told,) = vars(caught.exception).values()
        self.assertEqual((told, type(told)), (field, type(field)), row)

    def is_no_row(self, desk, row):
        self.is_refused(desk, row, NoRow, row)

    def says(self, desk, row, *lines):
        self.assertEqual(desk.say(row), text(*lines), row)


class Answers(DeskCase):
    def test_text(self):
        desk = Desk()
        self.says(desk, "text\n" + SOURCE, "ok")
        self.says(desk, "text", SOURCE)
        self.says(desk, "text\n" + BARE, "ok")
        self.says(desk, "text", BARE)

    def test_knobs(self):
        self.says(desk_of(SOURCE), "knobs", "0 0 5", "1 1 7")
        self.says(desk_of("x = 3 + %d * -4" % -GREAT + "\nback 0"), "knobs", "0 0 3", "1 0 %d" % -GREAT, "2 0 -4", "3 1 0")
        self.says(desk_of("back 4"), "knobs", "0 0 4")
        self.says(desk_of(BARE), "knobs", "none")

    def test_run(self):
        self.says(desk_of(SOURCE), "run", "29 3", "back 2", "3:yes 4:3")
        self.says(desk_of(BARE), "run", "none", "back 4", "none")
        self.says(desk_of("tell 5\nback -3"), "run", "5", "back -3", "none")
        self.says(desk_of("if 5 < 3\n  x = !1\nback !0"), "run", "none", "back 0", "0:no")
        self.says(desk_of("tell -5\nx = 3 * 4\nback 0"), "run", "-5", "fault bent 1", "none")
        self.says(desk_of("x = 9 // !2\nl = [ ]\ny = l [ 3 ]\nback 0"), "run", "none", "fault place 2", "0:4 2:beyond")
        self.says(desk_of("l = [ !1 ]\ny = l [ -3 ]\nback 0"), "run", "none", "fault place 1", "1:below")
        self.says(desk_of("if 1 == 1\n  x = -7 rest !2\nback x"), "run", "none", "back 1", "0:same 1:-4")

    def test_forms(self):
        self.says(desk_of(SOURCE), "forms", "0 + 0*3 + 1*2", "3")
        self.says(desk_of("tell !2 - 5 * !3\ntell !-4\ntell 7\nback 0"), "forms", "2 + 0*-3", "-4", "0 + 1*1")
        self.says(desk_of("tell 5 - !9 + 7 * !-2\nback 0"), "forms", "-9 + 0*1 + 1*-2")
        self.says(desk_of("x = 5\ntell x - x\nback 0"), "forms", "0")
        self.says(desk_of(BARE), "forms", "none")

    def test_conditions(self):
        self.says(desk_of(SOURCE), "conditions", "0 19 + 0*-1", "1 -6 + 1*1", "1 7 + 1*-1")
        self.says(desk_of("if 5 == 5\n  x = !1\nback !0"), "conditions", "0 0 + 0*1 + 1*-1", "0 0 + 0*-1 + 1*1")
        self.says(desk_of("x = 5\nif x - x < !3\n  x = !1\nback !0"), "conditions", "0 2")
        self.says(desk_of(BARE), "conditions", "none")
        self.says(desk_of("tell 5\nback 0"), "conditions", "none")

    def test_stretch(self):
        desk = desk_of(SOURCE)
        self.says(desk, "stretch 0 5", "- 19")
        self.says(desk, "stretch 0 20", "20 -")
        self.says(desk, "stretch 1 0", "0 1")
        self.says(desk, "stretch 1 -1", "-2 -1")
        self.says(desk, "stretch 1 %d" % GREAT, "%d %d" % (GREAT - 1, GREAT))
        self.says(desk_of("back 4"), "stretch 0 %d" % -GREAT, "- -")

    def test_parting(self):
        desk = desk_of(SOURCE)
        self.says(desk, "parting 0 15 25", "15 19 14:3 3:0 back 7:-1", "20 25 14:3 back 7:-1")
        self.says(desk, "parting 1 -1 3", "-1 -1 15:2 -1:0 back -5:1", "0 1 15:2 0:0 back -5:1", "2 3 15:2 1:0 back -5:1")
        self.says(desk, "parting 0 5 5", "5 5 14:3 3:0 back 7:-1")
        self.says(desk_of("back 4"), "parting 0 %d %d" % (-GREAT, GREAT), "%d %d back 0:1" % (-GREAT, GREAT))
        self.says(desk_of("l = [ !6 ]\ntell l [ 0 ]\nback !0"), "parting 0 -1 2",
                  "-1 -1 fault place 1", "0 0 6:0 back 0:0", "1 2 fault place 1")

    def test_pull(self):
        desk = desk_of(SOURCE)
        self.says(desk, "pull 0 41 0 -100 100", "ok")
        self.says(desk, "text", SOURCE.replace("x = 5", "x = 9"))
        self.says(desk, "run", "41 3", "back -2", "3:yes 4:3")
        self.says(desk, "pull 1 -2 1 -9 9", "ok")
        self.says(desk, "knobs", "0 0 9", "1 1 -3")
        self.says(desk, "pull 1 -2 1 -3 -3", "ok")
        self.says(desk, "knobs", "0 0 9", "1 1 -3")

    def test_set_back_and_on(self):
        desk = desk_of(SOURCE)
        self.says(desk, "set 1 -8", "ok")
        self.says(desk, "set 0 %d" % GREAT, "ok")
        self.says(desk, "knobs", "0 0 %d" % GREAT, "1 1 -8")
        self.says(desk, "back", "ok")
        self.says(desk, "knobs", "0 0 5", "1 1 -8")
        self.says(desk, "back", "ok")
        self.says(desk, "text", SOURCE)
        self.says(desk, "on", "ok")
        self.says(desk, "knobs", "0 0 5", "1 1 -8")
        self.says(desk, "set 0 0", "ok")
        self.is_refused(desk, "on", Nothing, "on")
        self.says(desk, "knobs", "0 0 0", "1 1 -8")

    def test_whence(self):
        desk = desk_of(SOURCE)
        self.says(desk, "whence 0", "0 0 3", "1 1 2")
        self.says(desk, "whence 1", "none")
        self.says(desk_of("tell !9 - 5\nback 0"), "whence 0", "0 0 -1")

    def test_a_new_book_for_each_text(self):
        desk = desk_of(SOURCE, "set 0 9", "set 0 8", "back", "text\n" + SOURCE)
        self.says(desk, "text", SOURCE)
        self.is_refused(desk, "back", Nothing, "back")
        self.is_refused(desk, "on", Nothing, "on")

    def test_asking_changes_nothing(self):
        desk = desk_of(SOURCE, "set 0 9", "set 0 8", "back")
        answers = [desk.say(row) for row in ASKS]
        self.assertEqual([desk.say(row) for row in ASKS], answers)
        self.says(desk, "on", "ok")
        self.says(desk, "knobs", "0 0 8", "1 1 7")

    def test_desks_side_by_side(self):
        one, other = desk_of(SOURCE), desk_of(SOURCE)
        one.say("set 0 9")
        self.is_refused(other, "back", Nothing, "back")
        self.says(other, "text", SOURCE)
        self.is_no_row(Desk(), "text")

    def test_by_the_name_shown(self):
        desk = Desk()
        self.assertEqual(desk.say(row="text\nback 1"), "ok")
        self.assertIs(type(desk.say(row="run")), str)


class Bounds(DeskCase):
    def test_three_hundred_lines(self):
        loop = text("while x < 3", "  x = x + !1", "  tell x", "back x")
        desk = desk_of(loop, "set 0 99")
        told = " ".join(map(str, range(1, 100)))
        ways = " ".join(["0:yes"] * 99 + ["0:no"])
        self.says(desk, "run", told, "back 99", ways)
        self.says(desk, "set 0 100", "ok")
        told = " ".join(map(str, range(1, 101)))
        self.says(desk, "run", told, "fault steps 0", " ".join(["0:yes"] * 100))
        self.says(desk, "stretch 0 5000", "100 -")
        self.assertEqual(desk.say("forms").split("\n"), [str(number) for number in range(1, 101)])
        self.assertEqual(desk.say("conditions").split("\n"), ["%d %d + 0*1" % (turn, -turn - 1) for turn in range(100)])
        self.says(desk, "whence 99", "none")
        self.is_refused(desk, "whence 100", NoPlace, 100)
        self.assertTrue(desk.say("parting 0 99 5000").endswith("\n100 5000 " + " ".join("%d:0" % k for k in range(1, 101)) + " fault steps 0"))
        self.is_refused(desk, "pull 100 101 0 0 90", NoPull, 101)

    def test_a_hundred_rows(self):
        desk = desk_of("tell 5 // !7\nback 0")
        rows = desk.say("parting 0 0 699").split("\n")
        self.assertEqual((len(rows), rows[0], rows[-1]), (100, "0 6 0:0 back 0:0", "693 699 99:0 back 0:0"))
        self.is_refused(desk, "parting 0 0 700", TooMany, 100)
        self.is_refused(desk, "pull 0 0 0 0 700", TooMany, 100)
        self.is_refused(desk, "pull 0 -1 0 0 700", TooMany, 100)
        self.says(desk, "pull 0 99 0 0 699", "ok")
        self.says(desk, "knobs", "0 0 693", "1 1 0")

    def test_sixty_figures(self):
        desk = desk_of("tell 5\nback 0")
        self.says(desk, "set 0 " + "9" * 60, "ok")
        self.is_no_row(desk, "set 0 1" + "0" * 60)
        self.is_no_row(desk, "set 0 -1" + "0" * 60)
        self.is_no_row(desk, "set 1" + "0" * 60 + " 0")
        self.says(desk, "pull 0 %d 0 %d %d" % (-GREAT, -GREAT, GREAT), "ok")
        self.says(desk, "run", str(-GREAT), "back 0", "none")
        self.is_refused(desk, "whence " + "9" * 60, NoPlace, GREAT)


class Refused(DeskCase):
    def test_ahead_of_a_text(self):
        desk = Desk()
        for row in ASKS + CHANGES + ("", "none", "set 99 0", "whence 99", "parting 0 9 0"):
            self.is_no_row(desk, row)
        self.says(desk, "text\nback 1", "ok")

    def test_no_text_behind_text(self):
        for desk in (Desk(), desk_of(SOURCE, "set 0 3")):
            for behind, line in (
                ("", 0), ("\n", 0), ("text", 0), ("\nback 1", 0), (" back 1", 0), ("back 1 ", 0), ("back 1\n", 1),
                ("x = 1", 1), ("x = 1\nback", 1), ("x = 01\nback 1", 0), ("x = f ( )\nback 1", 0),
                ("x = 1\n" * 60 + "back 1", 60), ("\u00e9", 0), ("back \u0661", 0),
            ):
                self.is_refused(desk, "text\n" + behind, NoText, line)
        # The book that lay there lies there still.
        self.says(desk, "knobs", "0 0 3", "1 1 7")
        self.says(desk, "back", "ok")
        self.says(desk, "text", SOURCE)

    def test_rows_that_are_no_text(self):
        for desk in (Desk(), desk_of(SOURCE)):
            for thing in (None, 0, 1, True, False, GREAT, (), [], ("run",), ["text\nback 1"], [[], ("run",)]):
                self.is_no_row(desk, thing)
            thing = ["run"]
            with self.assertRaises(NoRow) as caught:
                desk.say(thing)
            self.assertIs(caught.exception.row, thing)

    def test_blanks(self):
        desk = desk_of(SOURCE, "set 0 9", "back")
        for row in ASKS + CHANGES:
            for bent in (" " + row, row + " ", "\n" + row, row.replace(" ", "  ", 1) + "  ", row + " \n"):
                self.is_no_row(desk, bent)
            if row != "text":
                self.is_no_row(desk, row + "\n")
            if " " in row:
                for bent in (row.replace(" ", "  ", 1), row.replace(" ", "", 1), row.replace(" ", "\n", 1), row.replace(" ", "\t", 1)):
                    self.is_no_row(desk, bent)
        for row in ("", " ", "  ", "\n", "text \nback 1", " text\nback 1", "text back 1", "text\tback 1", "text\r\nback 1"):
            self.is_no_row(desk, row)

    def test_words(self):
        desk = desk_of(SOURCE, "set 0 9", "back")
        for row in ASKS + CHANGES:
            words = row.split(" ")
            for bent in (words + ["0"], words + [words[-1]], words[:-1], ["no"] + words, words + ["none"]):
                self.is_no_row(desk, " ".join(bent))
            for word in (row.upper(), row.capitalize(), row + "s", row[1:], row[:-1] + "?", "x" + row):
                self.is_no_row(desk, word)
        for row in ("knob", "read", "border 0 5", "pull_any 0 5 0 9", "runs", "tell 5", "none", "ok", "K", "set K N", "set"):
            self.is_no_row(desk, row)

    def test_numbers(self):
        desk = desk_of(SOURCE, "set 0 9", "back")
        for row in ASKS + CHANGES:
            words = row.split(" ")
            for at in range(1, len(words)):
                for bent in ("", "-", "00", "05", "-0", "-05", "+5", "!5", "5.0", "1e1", "1_0", "five", "0x1", "--5", "5-", "- 5",
                             "\u0661", "-", "None", "True", "1" + "0" * 60):
                    self.is_no_row(desk, " ".join(words[:at] + [bent] + words[at + 1:]))

    def test_knobs_and_places_below_nought(self):
        desk = desk_of(SOURCE)
        for row in ("stretch -1 5", "parting -1 0 9", "set -1 5", "pull 0 41 -1 0 9", "pull -1 41 0 0 9", "whence -1"):
            self.is_no_row(desk, row)
        # But these may be below.
        self.says(desk, "stretch 0 -5", "- 19")
        self.says(desk, "set 0 -5", "ok")
        self.says(desk, "parting 0 -5 -5", "-5 -5 14:3 3:0 back 7:-1")
        self.says(desk, "pull 0 -1 0 -9 -1", "ok")

    def test_low_above_high(self):
        desk = desk_of(SOURCE)
        for row in ("parting 0 1 0", "parting 0 0 -1", "pull 0 29 0 6 5", "pull 0 29 0 -5 -6", "parting 0 10 9", "pull 0 29 0 10 9",
                    "parting 99 1 0", "pull 0 29 99 1 0", "pull 99 29 0 1 0"):
            self.is_no_row(desk, row)
        self.says(desk, "parting 0 0 0", "0 0 14:3 3:0 back 7:-1")
        self.says(desk, "pull 0 29 0 5 5", "ok")

    def test_as_the_points_tell(self):
        desk = desk_of(SOURCE)
        for row in ("stretch 2 5", "parting 2 0 9", "set 2 5", "pull 0 41 2 0 9", "pull 9 9 2 0 9"):
            self.is_refused(desk, row, NoKnob, 2)
        self.is_refused(desk, "set %d 5" % GREAT, NoKnob, GREAT)
        self.is_refused(desk_of(BARE), "set 0 5", NoKnob, 0)
        self.is_refused(desk, "pull 0 42 0 -99 99", NoPull, 42)
        self.is_refused(desk, "pull 2 29 0 -99 99", NoPull, 29)
        self.is_refused(desk, "pull %d -29 0 -99 99" % GREAT, NoPull, -29)
        self.is_refused(desk, "whence 2", NoPlace, 2)
        self.is_refused(desk, "back", Nothing, "back")
        self.is_refused(desk, "on", Nothing, "on")
        self.is_refused(desk_of("tell 5 // !2\nback 0"), "pull 0 -1 7 0 999", NoKnob, 7)

    def test_answers_after_a_refusal(self):
        desk = desk_of(SOURCE, "set 0 9", "set 0 8", "back")
        answers = [desk.say(row) for row in ASKS]
        for row, kind, field in (
            ("pull 0 42 0 -99 99", NoPull, 42), ("set 5 5", NoKnob, 5), ("whence 9", NoPlace, 9), ("text\n", NoText, 0),
            ("nothing", NoRow, "nothing"), (None, NoRow, None), ("parting 0 9 0", NoRow, "parting 0 9 0"),
            ("parting 1 0 999", TooMany, 100), ("pull 1 400 1 0 999", TooMany, 100),
        ):
            self.is_refused(desk, row, kind, field)
            self.assertEqual([desk.say(row) for row in ASKS], answers)
        self.says(desk, "on", "ok")
        self.says(desk, "knobs", "0 0 8", "1 1 7")
        self.is_refused(desk, "on", Nothing, "on")
        self.says(desk, "knobs", "0 0 8", "1 1 7")
        self.says(desk, "back", "ok")
        self.says(desk, "back", "ok")
        self.is_refused(desk, "back", Nothing, "back")
        self.says(desk, "text", SOURCE)
        self.says(desk, "on", "ok")


class Against(DeskCase):
    """What is answered of made texts, against what the functions tell."""

    def form(self, form):
        return "".join(["%d" % form[0]] + [" + %d*%d" % part for part in form[1]])

    def end(self, end):
        return "back %d:%d" % end[1] if end[0] == "back" else "fault %s %d" % end[1:]

    def test_made_texts(self):
        for seed in range(150):
            chance, maker, source = made(seed)
            desk = desk_of(source)
            self.says(desk, "text", source)
            self.says(desk, "knobs", *["%d %d %d" % (k, line_of(source, k), n) for k, n in enumerate(knobs(source))] or ["none"])
            told, end, way, _ = run(source)
            last = "back %d" % end[1] if end[0] == "back" else self.end(end)
            self.says(desk, "run", " ".join(map(str, told)) or "none", last, " ".join("%d:%s" % turn for turn in way) or "none")
            told, _, _, _, conditions = traced(source)
            self.says(desk, "forms", *[self.form(form) for form in told] or ["none"])
            self.says(desk, "conditions", *["%d %s" % (turn, self.form(form)) for turn, form in conditions] or ["none"])
            for place, form in list(enumerate(told))[:5]:
                rows = ["%d %d %d" % (k, line_of(source, k), many) for k, many in form[1]]
                self.says(desk, "whence %d" % place, *rows or ["none"])
            if knobs(source):
                self.by_a_knob(desk, source, chance.randrange(len(knobs(source))), chance)

    def by_a_knob(self, desk, source, knob, chance):
        low = chance.randint(-9, 9)
        ends = ["-" if end is None else str(end) for end in stretch(source, knob, low)]
        self.says(desk, "stretch %d %d" % (knob, low), " ".join(ends))
        rows = []
        for least, greatest, told, end in parting(source, knob, low, low + 9):
            rows.append(" ".join(["%d %d" % (least, greatest)] + ["%d:%d" % pair for pair in told] + [self.end(end)]))
        self.says(desk, "parting %d %d %d" % (knob, low, low + 9), *rows)
        setting = knobs(source)
        setting[knob] = low
        self.says(desk, "set %d %d" % (knob, low), "ok")
        self.says(desk, "text", set_to(source, setting))
        told = traced(source, setting=setting)[0]
        if told:
            self.says(desk, "pull 0 %d %d %d %d" % (worth(told[0], setting), knob, low, low), "ok")
            self.says(desk, "text", set_to(source, setting))
            self.says(desk, "back", "ok")
        self.says(desk, "back", "ok")
        self.says(desk, "text", source)

    def test_rows_at_random(self):
        words = "text knobs run forms conditions stretch parting pull set back on whence none 0 1 5 -3 99 -0 ! - 10".split()
        chance = random.Random(7)
        desk = desk_of(SOURCE)
        answered = 0
        for _ in range(4000):
            row = " ".join(chance.choice(words) for _ in range(chance.choice((1, 1, 2, 3, 4, 6))))
            ahead = desk.say("text")
            try:
                told = desk.say(row)
            except NoRow as refusal:
                self.assertIs(refusal.row, row)
                self.assertEqual(desk.say("text"), ahead)
            except TugError:
                self.assertEqual(desk.say("text"), ahead)
            else:
                answered += 1
                self.assertIs(type(told), str)
                if told == "ok":
                    self.assertIn(row.split(" ")[0], ("pull", "set", "back", "on"))
                else:
                    self.assertEqual(desk.say("text"), ahead)
        self.assertGreater(answered, 300)


if __name__ == "__main__":
    unittest.main()
