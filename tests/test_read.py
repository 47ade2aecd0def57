"""read: which texts are texts, and the number of the first line that isn't so."""

import unittest

from tugline.errors import NoText
from tugline.plain import run
from tugline.sources import knobs, line_of, read, set_to


def text(*rows):
    return "\n".join(rows)


def sum_of_words(many):
    """A sum of just so many words, without a knob."""
    if many % 2:
        return " + ".join(["x"] * ((many + 1) // 2))
    return "len " + " + ".join(["x"] * (many // 2))


def brackets(many):
    return " ".join(["("] * many + ["x"] + [")"] * many)


class ReadCase(unittest.TestCase):
    def good(self, source):
        self.assertIsNone(read(source), source)

    def bad(self, line, source):
        with self.assertRaises(NoText, msg=repr(source)) as caught:
            read(source)
        self.assertEqual(caught.exception.line, line, repr(source))
        self.assertNotIsInstance(caught.exception.line, bool)

    def bad_part(self, part):
        """A part that makes its line, number 1 of the text, no line."""
        self.bad(1, text("def f a", "  tell " + part, "  back a", "back 0"))

    def good_part(self, part):
        self.good(text("def f a", "  tell " + part, "  back a", "back 0"))


class NoTexts(ReadCase):
    def test_what_is_no_text_for_each_function(self):
        for thing in (None, 0, 3, -1, True, False, (), [], ("back 1",), ["back 1"], [[None]]):
            for call in (
                lambda: read(thing),
                lambda: knobs(thing),
                lambda: line_of(thing, 0),
                lambda: line_of(thing, None),
                lambda: set_to(thing, []),
                lambda: run(thing),
                lambda: run(thing, setting=[1], steps=0),
            ):
                with self.assertRaises(NoText) as caught:
                    call()
                self.assertEqual(caught.exception.line, 0)

    def test_bad_text_for_each_function_ahead_of_knobs(self):
        source = text("x = 1", "tell x +", "back x")
        for call in (
            lambda: read(source),
            lambda: knobs(source),
            lambda: line_of(source, 9),
            lambda: set_to(source, [1, 2, 3]),
            lambda: run(source),
            lambda: run(source, setting=[1, 2, 3]),
        ):
            with self.assertRaises(NoText) as caught:
                call()
            self.assertEqual(caught.exception.line, 1)

    def test_empty_and_blank(self):
        for source in ("", " ", "  ", "\n", "\nback 1", " \nback 1", "# back 1", "\tback 1"):
            self.bad(0, source)
        self.bad(1, "back 1\n")
        self.bad(1, "x = 1\n\nback 1")
        self.bad(1, "x = 1\n  \nback 1")
        self.bad(1, "x = 1\n# so\nback 1")


class Words(ReadCase):
    def test_numbers(self):
        for word in ("0", "7", "-7", "10", "-10", "9" * 60, "-" + "9" * 60):
            self.good_part(word)
            self.good_part("!" + word)
        for word in ("00", "07", "-0", "-07", "--7", "+7", "-", "9" * 61, "-" + "9" * 61, "1a", "1.0", "1_0", "0x1"):
            self.bad_part(word)
            self.bad_part("!" + word)
        for word in ("!", "!!1", "! 1", "-!1", "- 1", "\u0661", "\u00b2"):
            self.bad_part(word)

    def test_names(self):
        for word in ("a", "abcd", "zzzz", "set", "list", "int", "de", "tel", "ba", "fix", "cell", "call"):
            self.good_part(word)
            self.good(text(word + " = 1", "back " + word))
        for word in ("abcde", "A", "aB", "a1", "a_b", "_", "\u00e4", "a-b", "a.b"):
            self.bad_part(word)
            self.bad(0, text(word + " = 1", "back 1"))
        for word in ("tell", "back", "if", "else", "while", "each", "in", "def", "len", "rest"):
            self.bad_part(word)
            self.bad(0, text(word + " = 1", "back 1"))
            self.bad(0, text("each " + word + " in [ ]", "  tell 1", "back 1"))
            self.bad(0, text("def " + word, "  back 1", "back 1"))
            self.bad(0, text("def g " + word, "  back 1", "back 1"))
            self.bad_part("len " + word)

    def test_signs(self):
        for part in ("a + 1", "a - 5", "a - -5", "a * 2", "a // 2", "a rest 2", "a + b - c * d // e rest f"):
            self.good_part(part)
        for part in ("a -5", "a-5", "a - - 5", "- a", "+ a", "a +", "a + + b", "a / b", "a ** b", "a b", "a , b"):
            self.bad_part(part)
        for part in ("a % b", "a = b", "a < b", "a == b", "a & b", "a // // b", "rest a", "a rest", "* a", ""):
            self.bad_part(part)

    def test_blanks_between(self):
        for row in ("tell  1", "tell 1 ", "tell\t1", "x =  1", "x= 1", "x =1", "tell ( 1)", "tell [1 ]", "x  = 1"):
            self.bad(0, text(row, "back 1"))
        self.bad(2, text("if 1 < 2", "  tell 1", " else", "  tell 2", "back 1"))

    def test_line_separators_other_than_line_feeds(self):
        for sign in ("\r", "\r\n", "\x0b", "\x0c", "\u2028"):
            self.bad(0, "tell 1" + sign + "back 1")


class Parts(ReadCase):
    def test_brackets(self):
        for part in ("( 1 )", "( a + 1 ) * 2", "( ( a ) )", "[ ]", "[ 1 ]", "[ 1 , 2 ]", "[ a + 1 , [ ] ]"):
            self.good_part(part)
        for part in ("( )", "( 1", "1 )", "( 1 ]", "[ 1", "[ , ]", "[ 1 , ]", "[ , 1 ]", "[ 1 2 ]", "( 1 , 2 )", "]"):
            self.bad_part(part)

    def test_items(self):
        for many in (0, 1, 8):
            self.good_part("[ " + " , ".join(["1"] * many) + (" ]" if many else "]"))
        self.bad_part("[ " + " , ".join(["1"] * 9) + " ]")

    def test_cells_and_len(self):
        for part in ("a [ 0 ]", "a [ a [ 0 ] ]", "a [ 1 + 2 ] * 2", "len a", "len a + len b", "a [ len a - 1 ]"):
            self.good_part(part)
        for part in ("a [ ]", "a [ 1 , 2 ]", "a [ 1", "a [ 1 ] [ 2 ]", "( a ) [ 1 ]", "[ 1 ] [ 0 ]", "f ( a ) [ 0 ]"):
            self.bad_part(part)
        for part in ("len", "len 1", "len ( a )", "len [ ]", "len f ( a )", "len len a", "len a [ 0 ]", "1 [ 0 ]"):
            self.bad_part(part)

    def test_calls(self):
        for part in ("f ( 1 )", "f ( a )", "f ( f ( f ( 1 ) ) )", "f ( [ 1 , 2 ] ) * 2"):
            self.good_part(part)
        for part in ("f (", "f ( 1", "f ( 1 , )", "f ( , 1 )", "f ( 1 ) ( 2 )", "f ( 1 ]", "a ( 1 )", "g ( 1 )"):
            self.bad_part(part)
        self.good(text("def none", "  back 1", "back none ( )"))
        self.good(text("def many a b c d", "  back 1", "back many ( 1 , 2 , 3 , 4 )"))

    def test_words_of_a_sum(self):
        for many in (1, 2, 99, 100):
            self.assertEqual(len(sum_of_words(many).split(" ")), many)
            self.good(text("tell " + sum_of_words(many), "back 1"))
        for many in (101, 102, 300):
            self.bad(0, text("tell " + sum_of_words(many), "back 1"))

    def test_words_of_each_sum_of_a_line(self):
        hundred, more = sum_of_words(100), sum_of_words(101)
        for row in ("x = {}", "back {}", "each x in {}"):
            deeper = ["  tell 1"] if row.startswith("each") else []
            self.good(text(row.format(hundred), *deeper, "back 1"))
            self.bad(0, text(row.format(more), *deeper, "back 1"))
        for row in ("if {} < {}", "while {} == {}"):
            self.good(text(row.format(hundred, hundred), "  tell 1", "back 1"))
            self.bad(0, text(row.format(hundred, more), "  tell 1", "back 1"))
            self.bad(0, text(row.format(more, hundred), "  tell 1", "back 1"))
        self.good(text("tell ( " + sum_of_words(98) + " )", "back 1"))
        self.bad(0, text("tell ( " + sum_of_words(99) + " )", "back 1"))

    def test_sums_within_sums(self):
        self.good_part(brackets(6))
        self.bad_part(brackets(7))
        self.good_part(brackets(6) + " + " + brackets(6))
        self.bad_part("a + 1 * " + brackets(7))
        self.bad(0, text("if a < " + brackets(7), "  tell 1", "back 1"))
        self.good(text("if " + brackets(6) + " < " + brackets(6), "  tell 1", "back 1"))
        self.good_part("( [ a [ f ( [ ( 1 ) ] ) ] ] )")
        self.bad_part("( [ a [ f ( [ ( [ 1 ] ) ] ) ] ] )")
        # An empty list and a name hold no sum that would stand deeper.
        self.good_part("( [ a [ f ( [ ( [ ] ) ] ) ] ] )")
        self.good_part("( [ a [ f ( [ ( len a ) ] ) ] ] )")
        for seven in ("[ {} ]", "[ a , {} ]", "[ a , a , {} ]", "a [ {} ]", "f ( {} )"):
            self.good_part(seven.format(brackets(5)))
            self.bad_part(seven.format(brackets(6)))

    def test_sums_within_calls_of_several(self):
        for call in ("two ( {} , a )", "two ( a , {} )"):
            for many, told in ((5, self.good), (6, lambda source: self.bad(2, source))):
                told(text("def two a b", "  back a", "back " + call.format(brackets(many))))

    def test_endless_brackets_are_refused(self):
        self.bad(0, "back " + "( " * 5000 + "1")
        self.bad(0, "back " + "[ " * 5000)


class Lines(ReadCase):
    def test_each_kind(self):
        self.good(text(
            "def f a b",
            "  if a < b",
            "    back a",
            "  else",
            "    tell b",
            "  back b",
            "def g",
            "  back [ ]",
            "x = f ( 1 , 2 )",
            "while x <= 3",
            "  x = x + 1",
            "each y in g ( )",
            "  tell y",
            "if x == 4",
            "  tell x",
            "back x",
        ))

    def test_wrong_words(self):
        for row in (
            "x", "x = ", "x =", "= 1", "= x = 1", "x == 1", "x = = 1", "x = y = 1", "1 = x", "x + 1", "f ( 1 )",
            "tell", "tell 1 2", "tell 1 < 2", "tell tell 1", "back", "back 1 , 2",
            "print 1", "rest 1", "len x", "in x", "set x = 1", "x [ 0 ] = 1", "x , y = 1",
        ):
            self.bad(0, text(row, "back 1"))
        for row in (
            "if", "if x", "if x = 1", "if x > 1", "if x >= 1", "if x < 1 < 2", "if < 1", "if x <", "if ( x < 1 )",
            "while", "while x", "while x == ", "while x != 1", "each", "each x", "each x in", "each in x", "each 1 in x",
            "each x of y", "each x y in z", "each x in y z", "else", "else 1",
        ):
            self.bad(0, text(row, "  tell 1", "back 1"))
        for row in ("def", "def 1", "def f 1", "def f ( a )", "def f a , b", "def f =", "def f a = 1", "def f "):
            self.bad(0, text(row, "  back 1", "back 1"))

    def test_params(self):
        for row in ("def f", "def f a", "def f a b c d", "def f f", "def abcd abcd x"):
            self.good(text(row, "  back 1", "back 1"))
        for row in ("def f a b c d e", "def f a a", "def f a b a", "def f abcde"):
            self.bad(0, text(row, "  back 1", "back 1"))

    def test_a_def_may_be_called_like_a_name(self):
        self.good(text("def f f", "  f = f ( f )", "  back f", "f = f ( f )", "back f"))

    def test_defs(self):
        self.bad(2, text("def f", "  back 1", "def f", "  back 1", "back 1"))
        self.bad(2, text("def f", "  back 1", "def f a", "  back 1", "back 1"))
        self.bad(1, text("x = 1", "def f", "  back 1", "back 1"))
        self.bad(1, text("if 1 < 2", "  def f", "    back 1", "back 1"))
        self.bad(1, text("def f", "  def g", "    back 1", "  back 1", "back 1"))
        self.bad(3, text("def f", "  back 1", "x = 1", "def g", "  back 1", "back 1"))

    def test_calls_by_the_defs_ahead_or_its_own(self):
        self.good(text("def f a", "  back f ( a )", "def g", "  back f ( g ( ) )", "back g ( )"))
        self.bad(1, text("def f", "  back g ( )", "def g", "  back 1", "back 1"))
        self.bad(0, text("x = f ( )", "back 1"))
        self.bad(2, text("def f", "  back 1", "x = g ( )", "back 1"))

    def test_a_def_ends_with_a_back(self):
        self.bad(2, text("def f", "  tell 1", "back 1"))
        self.bad(3, text("def f", "  back 1", "  tell 1", "back 1"))
        self.bad(3, text("def f", "  if 1 < 2", "    back 1", "back 1"))
        self.bad(5, text("def f", "  if 1 < 2", "    back 1", "  else", "    back 1", "back 1"))
        self.bad(2, text("def f", "  tell 1", "def g", "  back 1", "back 1"))
        self.bad(2, text("def f", "  tell 1", "no line", "back 1"))
        self.bad(2, text("def f", "  tell 1"))
        self.bad(2, text("def f", "  back 1"))
        self.good(text("def f", "  back 1", "  back 2", "back 1"))

    def test_the_text_ends_with_a_back(self):
        self.good("back 1")
        self.good(text("back 1", "back 2"))
        self.bad(1, "tell 1")
        self.bad(2, text("back 1", "tell 1"))
        self.bad(3, text("back 1", "if 1 < 2", "  back 1"))
        self.bad(5, text("x = 1", "if 1 < 2", "  back 1", "else", "  back 1"))
        self.bad(1, "def f")


class Depth(ReadCase):
    def test_blocks_must_have_a_line(self):
        for row in ("if 1 < 2", "while 1 < 2", "each x in y", "def f"):
            self.bad(1, text(row, "back 1"))
            self.bad(1, row)
        self.bad(1, text("if 1 < 2", "else", "  tell 1", "back 1"))
        self.bad(3, text("if 1 < 2", "  tell 1", "else", "back 1"))
        self.bad(3, text("if 1 < 2", "  tell 1", "else"))
        self.bad(2, text("if 1 < 2", "  while 1 < 2", "  tell 1", "back 1"))

    def test_a_line_must_stand_in_a_block(self):
        self.bad(0, "  back 1")
        self.bad(1, text("x = 1", "  tell 1", "back 1"))
        self.bad(2, text("if 1 < 2", "  tell 1", "    tell 1", "back 1"))
        self.bad(1, text("if 1 < 2", "    tell 1", "back 1"))
        self.bad(1, text("if 1 < 2", " tell 1", "back 1"))
        self.bad(1, text("if 1 < 2", "   tell 1", "back 1"))
        self.bad(4, text("if 1 < 2", "  tell 1", "else", "  tell 1", "    tell 1", "back 1"))

    def test_else(self):
        self.good(text("if 1 < 2", "  if 1 < 2", "    tell 1", "  else", "    tell 2", "else", "  tell 3", "back 1"))
        self.good(text("if 1 < 2", "  while 1 < 2", "    tell 1", "else", "  tell 3", "back 1"))
        self.bad(0, text("else", "  tell 1", "back 1"))
        self.bad(4, text("if 1 < 2", "  tell 1", "else", "  tell 1", "else", "  tell 1", "back 1"))
        self.bad(3, text("if 1 < 2", "  tell 1", "x = 1", "else", "  tell 1", "back 1"))
        self.bad(2, text("while 1 < 2", "  tell 1", "else", "  tell 1", "back 1"))
        self.bad(2, text("each x in y", "  tell 1", "else", "  tell 1", "back 1"))
        self.bad(2, text("def f", "  back 1", "else", "  tell 1", "back 1"))
        self.bad(1, text("if 1 < 2", "  else", "    tell 1", "back 1"))
        self.bad(2, text("if 1 < 2", "  tell 1", "  else", "    tell 1", "back 1"))
        self.bad(4, text("if 1 < 2", "  if 1 < 2", "    tell 1", "while 1 < 2", "  else", "    tell 1", "back 1"))

    def test_six_deep(self):
        def nested(depth):
            rows = ["  " * k + "if 1 < 2" for k in range(depth)]
            return rows + ["  " * depth + "tell 1"]
        self.good(text(*nested(6), "back 1"))
        self.bad(7, text(*nested(7), "back 1"))
        # A line six deep that wants a block can't have one.
        six = nested(6)[:6] + ["  " * 6 + "if 1 < 2"]
        self.bad(7, text(*six, "  " * 7 + "tell 1", "back 1"))
        self.bad(7, text(*six, "  " * 6 + "tell 1", "back 1"))
        self.bad(7, text(*six))


class Counts(ReadCase):
    def test_sixty_lines(self):
        self.good(text(*["tell !1"] * 59, "back 1"))
        self.bad(60, text(*["tell !1"] * 60, "back 1"))
        self.bad(60, text(*["tell !1"] * 60))
        self.bad(60, text(*["tell !1"] * 60, "no line"))
        self.bad(60, text(*["tell !1"] * 59, "back 1", "back 1"))
        self.bad(60, text(*["back 1"] * 200))
        self.bad(59, text(*["tell !1"] * 59, "no line", "back 1"))

    def test_thirty_knobs(self):
        self.good(text(*["tell 1"] * 29, "back 1"))
        self.bad(30, text(*["tell 1"] * 30, "back 1"))
        self.bad(30, text(*["tell 1"] * 30, "back 1 + 1"))
        self.bad(30, text(*["tell 1"] * 30, "tell 1", "back 1"))
        self.good(text("tell " + " + ".join(["1"] * 30), "back !1"))
        self.bad(0, text("tell " + " + ".join(["1"] * 31), "back !1"))
        self.bad(1, text("tell " + " + ".join(["1"] * 30), "back 1"))
        self.good(text(*["tell !1"] * 50, *["tell 1 + 1 + 1"] * 9, "back 1"))

    def test_calls_of_too_many_or_too_few(self):
        defs = ("def none", "  back 1", "def two a b", "  back 1")
        for call in ("none ( 1 )", "two ( )", "two ( 1 )", "two ( 1 , 2 , 3 )", "two ( 1 , 2 , 3 , 4 , 5 , 6 , 7 , 8 , 9 )"):
            self.bad(5, text(*defs, "x = 1", "tell " + call, "back 1"))
        self.bad(1, text("def f a", "  back f ( )", "back 1"))
        self.good(text(*defs, "back two ( none ( ) , 1 )"))
        self.bad(4, text(*defs, "back two ( none ( 1 ) , 1 )"))

    def test_words_go_ahead_of_calls_and_knobs(self):
        self.bad(4, text("def f a", "  back 1", "tell f ( )", "x = 1", "no line", "back 1"))
        self.bad(4, text("def f a", "  back 1", "tell f ( )", "tell " + " + ".join(["1"] * 31), "no line", "back 1"))
        self.bad(3, text("def f a", "  back 1", "tell f ( )"))
        self.bad(60, text("def f a", "  back 1", "tell f ( )", *["x = !1"] * 57, "back 1"))

    def test_the_first_of_calls_and_knobs(self):
        knobs_too_many = "tell " + " + ".join(["1"] * 31)
        self.bad(2, text("def f a", "  back !1", "tell f ( )", knobs_too_many, "back 1"))
        self.bad(2, text("def f a", "  back !1", knobs_too_many, "tell f ( )", "back 1"))
        self.bad(3, text("def f a", "  back !1", "tell " + " + ".join(["1"] * 30), "x = 1", "tell f ( )", "back 1"))


if __name__ == "__main__":
    unittest.main()
