"""The desk and its lines."""

import unittest

from partproof.books import lets_by
from partproof.desk import Desk
from partproof.errors import BadNames, BadStatement, BadTerm, NoRow, NotTold, NoText, PartError
from partproof.least import least_clash
from partproof.texts import read_book, read_statement, read_term, show_names, show_statement
from partproof.worlds import holds, value
from samples import names, other_kinds

NAMES = "names\n" + show_names(names())
LESS, MORE = "( below x y )", "( below y x )"
UNLIKE = "( not ( same ( call f x ) ( call f y ) ) )"
OPEN = "( not ( same ( read ( put a x 1 ) y ) 1 ) )"
WHOLE = "( same ( plus k k m ) 9 )"
BOOK = f"""case {LESS}
case {MORE}
clash 4
told {LESS} yes
told {MORE} yes
sum 0 1 1 1
end 2
plain 1
plain 0"""
# For each word of a line what may stand behind it, and something that stands right there.
SIGNS = {"names": "\n", "tell": " ", "back": " ", "told": "", "answer": "", "value": " ", "holds": " ", "check": "\n",
         "clash": ""}
BEHIND = {"names": "number x", "tell": LESS, "back": "0", "value": "x", "holds": LESS, "check": "plain 0"}


def right_lines():
    return [word + sign + BEHIND.get(word, "") for word, sign in SIGNS.items()]


def desk_with(*statements):
    desk = Desk()
    desk.say(NAMES)
    for statement in statements:
        desk.say("tell " + statement)
    return desk


def state_of(desk):
    """What a desk answers, as far as its house goes."""
    return [desk.say(line) for line in ("told", "answer", "value x", "value ( call f y )", "value c", "value k", "holds " + LESS,
                                        "clash", "check\nplain 0")]


class TestLines(unittest.TestCase):
    def test_no_house_at_first(self):
        for line in right_lines():
            if not line.startswith("names"):
                self.refuses(Desk(), NoRow, line)

    def refuses(self, desk, error, line):
        with self.assertRaises(PartError) as caught:
            desk.say(line)
        self.assertIs(type(caught.exception), error, line)

    def test_names(self):
        desk = Desk()
        self.assertEqual(desk.say("names\n"), "ok")
        self.assertEqual(desk.say("told"), "")
        self.assertEqual(desk.say("answer"), "world")
        self.refuses(desk, BadTerm, "value x")
        self.assertEqual(desk.say("value ( plus )"), "0")
        self.assertEqual(desk.say(NAMES), "ok")
        desk.say("tell " + LESS)
        self.assertEqual(desk.say("told"), LESS)
        # The same names once more are a house without statements; other names are other ones.
        self.assertEqual(desk.say(NAMES), "ok")
        self.assertEqual(desk.say("told"), "")
        desk.say("tell " + LESS)
        self.assertEqual(desk.say("names\nthing x"), "ok")
        self.assertEqual(desk.say("told"), "")
        self.refuses(desk, BadStatement, "tell " + LESS)
        self.assertEqual(desk.say("tell ( same x x )"), "ok")

    def test_told(self):
        desk = desk_with()
        self.assertEqual(desk.say("told"), "")
        for many, statement in enumerate((LESS, UNLIKE, LESS, "( and )"), start=1):
            self.assertEqual(desk.say("tell " + statement), "ok")
            self.assertEqual(desk.say("told"), "\n".join([LESS, UNLIKE, LESS, "( and )"][:many]))
        self.assertEqual(desk.say("back 0"), "ok")
        self.assertEqual(desk.say("back 2"), "ok")
        self.assertEqual(desk.say("told"), LESS + "\n" + UNLIKE)
        self.assertEqual(desk.say("back 2"), "ok")
        self.assertEqual(desk.say("told"), "")
        self.assertEqual(desk.say("back 0"), "ok")

    def test_answer(self):
        desk = desk_with(LESS)
        self.assertEqual(desk.say("answer"), "world")
        desk.say("tell " + MORE)
        for turn in range(2):
            word, text = desk.say("answer").split("\n", 1)
            self.assertEqual(word, "book")
            told = (read_statement(names(), LESS), read_statement(names(), MORE))
            self.assertTrue(lets_by(names(), told, read_book(names(), text)))
            self.assertEqual(desk.say("check\n" + text), "yes")
        desk.say("back 1")
        self.assertEqual(desk.say("answer"), "world")
        self.assertEqual(desk.say("check\n" + text), "no")

    def test_values_are_those_of_the_answer(self):
        for statements in ((), (LESS,), (LESS, UNLIKE), (OPEN, WHOLE), (UNLIKE, OPEN, LESS)):
            desk = desk_with(*statements)
            world = desk.house.answer()
            for text in ("x", "y", "k", "m", "( call f x )", "( plus x y 1/2 )", "( read ( put a x 1 ) y )", "( weigh -1/3 y )",
                         "c", "( call p c )", "-7/2", "0"):
                told = value(world, read_term(names(), text))
                told = told if isinstance(told, tuple) else (told, 1)
                wanted = str(told[0]) if told[1] == 1 else f"{told[0]}/{told[1]}"
                self.assertEqual(desk.say("value " + text), wanted)
                self.assertEqual(desk.say("value " + text), wanted)
            for text in statements:
                self.assertEqual(desk.say("holds " + text), "yes")
                self.assertEqual(desk.say(f"holds ( not {text} )"), "no")
            for text in (MORE, UNLIKE, "( or )", "( and )", "( same c d )", "( atmost x 0 )"):
                self.assertEqual(desk.say("holds " + text),
                                 "yes" if holds(world, read_statement(names(), text)) else "no")

    def test_none_where_the_answer_is_a_book(self):
        desk = desk_with(LESS, MORE)
        for line in ("value x", "value c", "value 1/2", "value ( plus )", "holds ( and )", "holds ( or )", "holds " + LESS):
            self.assertEqual(desk.say(line), "none")
        self.refuses(desk, BadTerm, "value a")
        self.refuses(desk, BadTerm, "value z")
        self.refuses(desk, BadStatement, "holds ( same a a )")
        self.refuses(desk, NoText, "holds x")
        desk.say("back 1")
        self.assertNotEqual(desk.say("value x"), "none")

    def test_check(self):
        desk = desk_with(LESS, MORE)
        self.assertEqual(desk.say("check\n" + BOOK), "yes")
        for right, wrong in (("plain 0", "plain 1"), ("sum 0 1 1 1", "sum 0 1 1 2"), ("end 2", "end 1"), ("yes", "no"),
                             ("plain 1", "plain 2")):
            self.assertEqual(desk.say("check\n" + BOOK.replace(right, wrong, 1)), "no")
        self.assertEqual(desk_with(MORE, LESS).say("check\n" + BOOK), "no")
        self.assertEqual(desk_with(LESS, MORE, UNLIKE).say("check\n" + BOOK), "yes")
        self.assertEqual(desk_with(LESS).say("check\n" + BOOK), "no")
        self.assertEqual(desk_with().say("check\n" + BOOK), "no")
        self.assertEqual(desk_with("( or )").say("check\nplain 0"), "yes")
        self.assertEqual(desk_with("( and )").say("check\nplain 0"), "no")

    def test_clash(self):
        desk = desk_with()
        self.assertEqual(desk.say("clash"), "none")
        for statement, wanted in (("( same c c )", "none"), (LESS, "none"), (UNLIKE, "none"), (MORE, "1 3"), ("( or )", None)):
            desk.say("tell " + statement)
            told = tuple([read_statement(names(), row) for row in desk.say("told").split("\n")])
            if wanted is None:
                wanted = " ".join(map(str, least_clash(names(), told)))
                self.assertIn(wanted, ("1 3", "4"))
            self.assertEqual(desk.say("clash"), wanted)
        desk.say("back 2")
        self.assertEqual(desk.say("clash"), "none")

    def test_two_beside_one_another(self):
        one, other = desk_with(LESS), desk_with(MORE)
        self.assertEqual((one.say("told"), other.say("told")), (LESS, MORE))
        one.say("back 1")
        self.assertEqual((one.say("told"), other.say("told")), ("", MORE))
        self.refuses(Desk(), NoRow, "told")


class TestRefused(unittest.TestCase):
    def refuses(self, error, line, *statements):
        desk, other = desk_with(*statements), desk_with(*statements)
        for turn in range(2):
            with self.assertRaises(PartError) as caught:
                desk.say(line)
            self.assertIs(type(caught.exception), error, line)
        # What is refused changes nothing.
        self.assertEqual(state_of(desk), state_of(other))
        self.assertEqual(state_of(desk), state_of(other))

    def test_no_rows(self):
        lines = ["", " ", "\n", "help", "Told", "TOLD", "tolds", "told ", " told", "told\n", "told x", "answer ", "answer x", "answers",
                 "answer\n", "clash ", "clash 1", "clash\n", "names", "names ", "names x", "names number x", " names\n", "names\r\nnumber x",
                 "names\tnumber x", "tell", "tell\n" + LESS, "tell" + LESS, "tell\t" + LESS, "Tell " + LESS, "back", "back\n1", "back1",
                 "value", "value\nx", "valuex", "values x", "holds", "holds\n" + LESS, "hold " + LESS, "check", "check plain 0",
                 "check ", "check\tplain 0", "checks\nplain 0", LESS, "x", "number x", "plain 0", "tell,", "back-1"]
        for line in lines + [thing for thing in other_kinds() if not isinstance(thing, str)]:
            self.refuses(NoRow, line, LESS, UNLIKE)
            with self.assertRaises(PartError) as caught:
                Desk().say(line)
            self.assertIs(type(caught.exception), NoRow)

    def test_what_stands_in_it(self):
        for error, line in [
                (NoText, "tell "), (NoText, "tell  " + LESS), (NoText, "tell " + LESS + " "), (NoText, "tell " + LESS + "\n"),
                (NoText, "tell x"), (NoText, "tell ( and"), (NoText, "tell ( same z 01 )"), (BadStatement, "tell ( same x c )"),
                (BadStatement, "tell ( same a a )"), (BadStatement, "tell ( same z x )"),
                (BadStatement, "tell " + "( not " * 12 + "( and )" + " )" * 12),
                (NoText, "value "), (NoText, "value " + LESS), (NoText, "value x y"), (NoText, "value 01"), (NoText, "value  x"),
                (BadTerm, "value z"), (BadTerm, "value a"), (BadTerm, "value ( put a x 1 )"), (BadTerm, "value ( plus c )"),
                (BadTerm, "value ( put a c 1 )"), (BadTerm, "value " + "( plus " * 12 + "x" + " )" * 12),
                (NoText, "holds "), (NoText, "holds x"), (NoText, "holds ( or ) "), (BadStatement, "holds ( below c c )"),
                (NoText, "check\n"), (NoText, "check\nplain"), (NoText, "check\n\nplain 0"), (NoText, "check\nplain 0\n"),
                (BadStatement, "check\ncase ( same x c )\nplain 0\nplain 0"), (BadTerm, "check\nclash 1\nhit z -"),
                (NoText, "check\ncase ( same x c )\nplain 0"),
                (NoText, "names\n\n"), (NoText, "names\nnumber X"), (NoText, "names\n number x"), (NoText, "names\nnumber x\n"),
                (NoText, "names\nnumber x\nnumber x\nnumber"), (BadNames, "names\nnumber x\nnumber x"),
                (BadNames, "names\nwhole k 1 0"), (BadNames, "names\nfunction f num num num num gives num")]:
            self.refuses(error, line)
            self.refuses(error, line, LESS, UNLIKE)
            self.refuses(error, line, LESS, MORE)

    def test_back(self):
        for text in ("", " ", " 1", "1 ", "1\n", "-1", "-0", "+1", "00", "01", "1/2", "x", "one", "1 1", "1" + "0" * 60, "0" * 60,
                     "\u0661", "- 1", "1.0"):
            self.refuses(NoText, "back " + text, LESS, UNLIKE)
        for text in ("3", "4", "10", "9" * 60, "1" + "0" * 59):
            self.refuses(NotTold, "back " + text, LESS, UNLIKE)
        self.refuses(NotTold, "back 1")

    def test_no_row_comes_first(self):
        for line in ("tell", "tells ( same x", "told 01", "answer ( x", "names number X", "check plain 00"):
            self.refuses(NoRow, line, LESS)
        for line in ("tell x", "back x", "back 7", "value a", "value 01", "holds x", "check\nplain", "tell ( same x c )"):
            with self.assertRaises(NoRow):
                Desk().say(line)

    def test_refused_names_leave_no_house(self):
        for line in ("names\nnumber X", "names\nnumber x\nnumber x", "names"):
            desk = Desk()
            with self.assertRaises(PartError):
                desk.say(line)
            with self.assertRaises(NoRow):
                desk.say("told")
            self.assertEqual(desk.say(NAMES), "ok")
            self.assertEqual(desk.say("tell " + LESS), "ok")


class TestLong(unittest.TestCase):
    def test_large_numbers(self):
        desk = desk_with("( same x " + "7" * 2000 + " )", "( same ( weigh 1/3 y ) ( plus x -1/3 ) )")
        self.assertEqual(desk.say("value x"), "7" * 2000)
        self.assertEqual(desk.say("value ( plus x ( weigh -1/3 y ) )"), "1/3")
        self.assertEqual(desk.say("holds ( below x " + "8" + "0" * 1999 + " )"), "yes")

    def test_many_told(self):
        rows = [f"( atmost {one} {other} )" for one in "xykm" for other in "xykm" if one != other]
        desk = desk_with(*rows)
        self.assertEqual(desk.say("told"), "\n".join(rows))
        self.assertEqual(desk.say("answer"), "world")
        desk.say("tell ( below ( call f x ) ( call f k ) )")
        self.assertTrue(desk.say("answer").startswith("book\n"))
        self.assertEqual(desk.say("check\n" + desk.say("answer")[5:]), "yes")
        desk.say(f"back {len(rows) + 1}")
        self.assertEqual(desk.say("told"), "")
        self.assertEqual(show_statement(read_statement(names(), rows[0])), rows[0])


if __name__ == "__main__":
    unittest.main()
