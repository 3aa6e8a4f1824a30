"""Terms, statements, names and books as texts, and read again."""

import copy
import unittest

from drawing import Draw
from partproof.cases import answer
from partproof.errors import BadNames, BadStatement, BadTerm, NoText, PartError
from partproof.names import Names
from partproof.statements import check_statement
from partproof.texts import (read_book, read_names, read_statement, read_term, show_book, show_names, show_statement,
                             show_term)
from partproof.worlds import World
from samples import (A, ARRAY_WRAPS, B, C, D, HALF, K, M, NUM_WRAPS, ONE, THING_WRAPS, X, Y, ZERO, call, deep, names,
                     number, other_kinds, plus, put, read, unknown, weigh)

LONG = int("9" * 2000)
TERMS = {
    "0": ZERO, "1": ONE, "-1": number(-1), "1/2": HALF, "-3/2": number(-3, 2), "120": number(120), "10/7": number(10, 7),
    "9" * 2000: number(LONG), "-" + "9" * 2000: number(-LONG), "-1/" + "9" * 2000: number(-1, LONG),
    "9" * 2000 + "/1" + "0" * 1999: number(LONG, 10 ** 1999),
    "x": X, "k": K, "c": C, "a": A,
    "( weigh 1/2 x )": weigh(1, 2, X), "( weigh 0 ( weigh -2 k ) )": weigh(0, 1, weigh(-2, 1, K)),
    "( plus )": plus(), "( plus x )": plus(X), "( plus x 1/2 ( plus ) k )": plus(X, HALF, plus(), K),
    "( call f x )": call("f", X), "( call h c d ( call f 0 ) )": call("h", C, D, call("f", ZERO)),
    "( call p ( call g c 1 ) )": call("p", call("g", C, ONE)),
    "( read a x )": read(A, X), "( read ( put a x 1 ) y )": read(put(A, X, ONE), Y),
    "( put ( put b k 1/2 ) ( read a 0 ) -1 )": put(put(B, K, HALF), read(A, ZERO), number(-1)),
}
STATEMENTS = {
    "( atmost x 1/2 )": ("atmost", X, HALF), "( below k ( plus ) )": ("below", K, plus()), "( same c d )": ("same", C, D),
    "( same x ( read a k ) )": ("same", X, read(A, K)), "( not ( same c d ) )": ("not", ("same", C, D)),
    "( and )": ("and", ()), "( or )": ("or", ()), "( and ( or ) )": ("and", (("or", ()),)),
    "( or ( below x y ) ( not ( and ) ) ( same c c ) )": ("or", (("below", X, Y), ("not", ("and", ())), ("same", C, C))),
}
# Written as no number, whatever is asked.
NO_NUMBERS = ["00", "01", "-0", "-01", "+1", "--1", "-", "1/1", "2/1", "0/1", "0/5", "1/0", "0/0", "2/4", "-2/4", "1/-2",
              "1/02", "01/2", "1/", "/2", "/", "1/2/3", "1.5", "1e3", "1_000", "0x1", "1 /2", "1/ 2", "1 / 2", "\u0661",
              "\u00b2", "\uff11", "1" * 2001, "-" + "1" * 2001, "1/" + "3" * 2001, "1" * 2001 + "/2", "1,0", "1\n", "\n1",
              "1\t", "1\r", "1\n/2"]
NO_NAMES = ["X", "xY", "x1", "1x", "_x", "x_y", "abcdefghi", "\u00e4", "x-y", "x.", "x,", "", "(x", "x)", "x\n", "x\tx"]


def refused(test, error, deed, *things):
    with test.assertRaises(PartError) as caught:
        deed(*things)
    test.assertIs(type(caught.exception), error, things[-1])
    test.assertIsInstance(caught.exception, ValueError)


class TestTerms(unittest.TestCase):
    def test_written_and_read_again(self):
        for text, term in TERMS.items():
            self.assertEqual(show_term(term), text)
            self.assertEqual(read_term(names(), text), term)

    def test_statements_written_and_read_again(self):
        for text, statement in STATEMENTS.items():
            self.assertEqual(show_statement(statement), text)
            self.assertEqual(read_statement(names(), text), statement)

    def test_twelve_deep_and_thirteen(self):
        for wraps, leaf in ((NUM_WRAPS, X), (THING_WRAPS, C), (ARRAY_WRAPS, A)):
            for wrap in wraps:
                term = deep(wrap, leaf, 12)
                self.assertEqual(read_term(names(), show_term(term)), term)
                refused(self, BadTerm, read_term, names(), show_term(deep(wrap, leaf, 13)))
                refused(self, BadTerm, read_term, names(), show_term(deep(wrap, leaf, 60)))
        for wrap in (lambda part: ("not", part), lambda part: ("and", (part, ("or", ())))):
            statement = deep(wrap, ("below", X, Y), 11)
            self.assertEqual(read_statement(names(), show_statement(statement)), statement)
            refused(self, BadStatement, read_statement, names(), show_statement(deep(wrap, ("below", X, Y), 12)))
            refused(self, BadStatement, read_statement, names(), show_statement(deep(wrap, ("below", X, Y), 59)))
        atom = ("same", deep(NUM_WRAPS[0], X, 12), X)
        refused(self, BadStatement, read_statement, names(), show_statement(atom))

    def test_deeper_than_sixty(self):
        for many in (61, 1000, 9000):
            for opening, closing, deed in (("( plus ", " )", read_term), ("( call f ", " )", read_term),
                                           ("( read a ", " )", read_term), ("( not ", " )", read_statement),
                                           ("( and ", " )", read_statement), ("( put ", " x x )", read_term)):
                leaf = "( same x y )" if deed == read_statement else ("a" if "put" in opening else "x")
                text = opening * many + leaf + closing * many
                with self.assertRaises((NoText, BadTerm, BadStatement)):
                    deed(names(), text)
            with self.assertRaises((NoText, BadStatement)):
                read_statement(names(), "( same x " + "( plus " * many + "x" + " )" * many + " )")
            # What is not closed is no text, however deep.
            refused(self, NoText, read_term, names(), "( plus " * many + "x" + " )" * (many - 1))
            refused(self, NoText, read_statement, names(), "( not " * many)

    def test_drawn(self):
        for seed in range(100):
            draw = Draw(seed, deepest=5)
            for statement in draw.told(4, 3):
                self.assertEqual(read_statement(draw.names, show_statement(statement)), statement)
                check_statement(draw.names, statement)
            term = draw.num(6)
            self.assertEqual(read_term(draw.names, show_term(term)), term)

    def test_names_like_words(self):
        own_names = Names(["plus", "num", "yes"], [("call", 0, 1)], ["thing"], [("read", ("num",), "num")], ["put", "gives"])
        for text in ("plus", "( plus plus plus )", "( call read call )", "( read put num )", "( read ( put gives yes num ) call )",
                     "( weigh 2 plus )"):
            self.assertEqual(show_term(read_term(own_names, text)), text)
        for text in ("( same thing thing )", "( below plus ( read put plus ) )"):
            self.assertEqual(show_statement(read_statement(own_names, text)), text)

    def test_no_text(self):
        texts = ["", " ", "  ", " x", "x ", "x y", "x  y", "(", ")", "( )", "()", "(plus)", "( plus)", "(plus )", "( plus x",
                 "plus x )", "( plus x ) )", "( ( plus x ) )", "( plus  x )", " ( plus x )", "( plus x ) ", "( plus x )\n",
                 "\n( plus x )", "( plus\nx )", "( plus\tx )", "( plus x ) x", "x ( plus x )", "( x )", "( 1 )", "( weigh )",
                 "( weigh x )", "( weigh 1 )", "( weigh x 1 )", "( weigh 1 x x )", "( weigh ( plus ) x )", "( weigh 2/4 x )",
                 "( call )", "( call f )", "( call 1 x )", "( call F x )", "( call ( plus ) x )", "( call abcdefghi x )",
                 "( read )", "( read a )", "( read a x x )", "( put a x )", "( put a x x x )", "( put )", "( number 1 )",
                 "( unknown x )", "( minus x )", "( Plus x )", "[ plus x ]", "( plus x ]", "( plus ( and ) )",
                 "( plus ( same x x ) )", "( call f ( or ) )", "( read a ( not ( and ) ) )", "( weigh 1 ( same x y ) )",
                 "( plus x\u00a0x )", "( plus x , x )", "x\r", "x\x00", "( plus ( plus x )", "( plus plus x ) )"]
        for text in texts + NO_NUMBERS + NO_NAMES + list(STATEMENTS):
            refused(self, NoText, read_term, names(), text)
        for text in NO_NUMBERS + NO_NAMES:
            refused(self, NoText, read_term, names(), f"( plus {text} )" if text else "( plus  )")
            refused(self, NoText, read_term, names(), f"( weigh {text} x )")
            refused(self, NoText, read_statement, names(), f"( below x {text} )")
        for text in ("1 2", "x", "1/2"):
            refused(self, NoText, read_term, names(), f"( weigh {text} x x )")

    def test_no_text_of_a_statement(self):
        texts = ["", " ", "( )", "( and", "and )", "( and ) )", "( and )\n", " ( and )", "( and ) ", "( and  )", "( and ) ( or )",
                 "( not )", "( not ( and ) ( and ) )", "( not x )", "( and x )", "( or 1 )", "( same x )", "( same x y y )",
                 "( same )", "( same ( and ) ( and ) )", "( atmost x )", "( below x y x )", "( below ( not ( and ) ) x )",
                 "( is x y )", "( AND )", "( and ( same x y )", "( same x  y )", "( same x\ny )", "yes", "( yes )"]
        for text in texts + list(TERMS):
            refused(self, NoText, read_statement, names(), text)

    def test_what_is_no_text(self):
        for thing in other_kinds():
            if not isinstance(thing, str):
                refused(self, NoText, read_term, names(), thing)
                refused(self, NoText, read_statement, names(), thing)
                refused(self, NoText, read_names, thing)
                refused(self, NoText, read_book, names(), thing)

    def test_no_terms_of_the_names(self):
        for text in ("z", "plus", "f", "num", "( plus c )", "( plus a )", "( weigh 2 c )", "( call x x )", "( call z x )",
                     "( call f x x )", "( call f c )", "( call f x x x x )", "( call p x )", "( read x x )", "( read a c )",
                     "( put a c x )", "( put x x x )", "( read a a )", "( plus x ( call z x ) )", "( call plus x )"):
            refused(self, BadTerm, read_term, names(), text)
        for text in ("( same x c )", "( same a a )", "( below c d )", "( atmost c c )", "( same z x )", "( same f f )",
                     "( same x ( call f c ) )", "( and ( same x x ) ( not ( same a b ) ) )", "( or ( below ( read x x ) x ) )"):
            refused(self, BadStatement, read_statement, names(), text)

    def test_no_text_comes_first(self):
        refused(self, NoText, read_term, names(), "( plus z c ( call z ) )")
        refused(self, NoText, read_term, names(), "( plus z 01 )")
        refused(self, NoText, read_statement, names(), "( and ( same z a ) x )")
        refused(self, NoText, read_statement, names(), "( same z a ) )")


def fields_of(own_names):
    return (own_names.all_numbers(), own_names.all_wholes(), own_names.all_things(), own_names.all_functions(),
            own_names.all_arrays())


NAMES = {
    "": ([], [], [], [], []),
    "number x": (["x"], [], [], [], []),
    "whole k -3 57": ([], [("k", -3, 57)], [], [], []),
    "whole k 0 0": ([], [("k", 0, 0)], [], [], []),
    "whole k 1" + "0" * 1999 + " 1" + "0" * 1998 + "1": ([], [("k", 10 ** 1999, 10 ** 1999 + 1)], [], [], []),
    "thing cat": ([], [], ["cat"], [], []),
    "function f num gives num": ([], [], [], [("f", ("num",), "num")], []),
    "function gives num thing num gives thing": ([], [], [], [("gives", ("num", "thing", "num"), "thing")], []),
    "array number": ([], [], [], [], ["number"]),
    "number x\nnumber abcdefgh\nwhole k 0 5\nwhole m -3 3\nthing c\nthing d\nfunction f num gives num\n"
    "function p thing gives thing\narray b\narray a":
        (["x", "abcdefgh"], [("k", 0, 5), ("m", -3, 3)], ["c", "d"],
         [("f", ("num",), "num"), ("p", ("thing",), "thing")], ["b", "a"]),
}


class TestNames(unittest.TestCase):
    def test_written_and_read_again(self):
        for text, lists in NAMES.items():
            self.assertEqual(show_names(Names(*lists)), text)
            self.assertEqual(fields_of(read_names(text)), lists)
            self.assertIsInstance(read_names(text), Names)
        self.assertEqual(fields_of(read_names(show_names(names()))), fields_of(names()))

    def test_no_text(self):
        texts = [" ", "\n", "\n\n", "number", "number ", "number  x", " number x", "number x ", "number x\n", "\nnumber x",
                 "number x\n\nnumber y", "number x y", "number X", "number 1", "number x1", "number abcdefghi", "Number x",
                 "numbers x", "x", "number x\r\nnumber y", "number\tx", "whole k", "whole k 0", "whole k 0 1 2", "whole k 0  1",
                 "whole 0 1 k", "whole k 00 1", "whole k -0 1", "whole k +0 1", "whole k 0 1/2", "whole k 0 2/1", "whole k a b",
                 "whole k 0 1" + "0" * 2000, "whole K 0 1", "thing", "thing c d", "thing C", "function f", "function f num",
                 "function f gives num", "function f num gives", "function f num gives num num", "function f num give num",
                 "function f num gives num ", "function f  num gives num", "function f array gives num", "function f num gives array",
                 "function f Num gives num", "function f num gives gives num", "function num gives num", "function F num gives num",
                 "function f num gives num gives num", "array", "array a b", "array A", "array a 1", "thing c\nnumber x",
                 "whole k 0 1\nnumber x", "function f num gives num\nthing c", "array a\nfunction f num gives num",
                 "array a\nnumber x", "number x\nwhole k 0 1\nnumber y", "number x number y", "names\nnumber x", "unknown x"]
        for text in texts:
            refused(self, NoText, read_names, text)
            if text.strip():
                refused(self, NoText, read_names, "number zz\n" + text if text.startswith("number") else "\n" + text)

    def test_no_names(self):
        for text in ("number x\nnumber x", "number x\nthing x", "whole k 0 1\narray k", "thing f\nfunction f num gives num",
                     "array a\narray a", "whole k 1 0", "whole k 0 61", "whole k -1 60", "whole k 0 1" + "0" * 1999,
                     "whole k 0 59\nwhole m 0 59\nwhole n 0 1", "function f num num num num gives num",
                     "function f thing thing thing thing num gives thing"):
            refused(self, BadNames, read_names, text)

    def test_no_text_comes_first(self):
        refused(self, NoText, read_names, "number x\nnumber x\nnumber Y")
        refused(self, NoText, read_names, "whole k 1 0\nwhole k")
        refused(self, NoText, read_names, "function f num num num num gives num\nnumber x")


STEPS = {
    "told ( below x y ) yes": ("told", ("below", X, Y), True),
    "told ( same c ( call p d ) ) no": ("told", ("same", C, call("p", D)), False),
    "bound k low": ("bound", "k", "low"), "bound zz high": ("bound", "zz", "high"),
    "sum 0 1": ("sum", ((0, (1, 1)),)), "sum 0 -1/2 10 3 0 0": ("sum", ((0, (-1, 2)), (10, (3, 1)), (0, (0, 1)))),
    "both 0 12": ("both", 0, 12),
    "apart 3 x ( plus k 1 )": ("apart", 3, X, plus(K, ONE)), "apart - 0 1": ("apart", None, ZERO, ONE),
    "round 0": ("round", 0),
    "like ( call f x ) ( call f y ) ( 7 )": ("like", call("f", X), call("f", Y), (7,)),
    "like ( call h c d x ) c ( - 0 - )": ("like", call("h", C, D, X), C, (None, 0, None)),
    "chain ( 1 ) c d": ("chain", (1,), C, D), "chain ( 1 - 2 ) c ( call p d )": ("chain", (1, None, 2), C, call("p", D)),
    "hit ( read ( put a x 1 ) x ) -": ("hit", read(put(A, X, ONE), X), None), "hit a 4": ("hit", A, 4),
    "miss ( read ( put a x 1 ) y ) 2": ("miss", read(put(A, X, ONE), Y), 2), "miss 1/2 -": ("miss", HALF, None),
    "end 5": ("end", 5), "end 0 " + "9" * 2000: ("end", 0, LONG),
}
BOOKS = {
    "plain 0": ("plain", 0), "plain " + "9" * 2000: ("plain", LONG),
    "clash 1\nend 0": ("clash", (("end", 0),)),
    "case ( same x y )\nplain 1\nplain 22": ("case", ("same", X, Y), ("plain", 1), ("plain", 22)),
    "cut k 3\nplain 1\nplain 2": ("cut", "k", 3, ("plain", 1), ("plain", 2)),
    "cut nobody -10\nplain 1\nplain 2": ("cut", "nobody", -10, ("plain", 1), ("plain", 2)),
    "case ( same c c )\ncut k 0\nplain 1\nclash 2\nround 0\nend 1 0\ncase ( atmost k m )\nplain 4\nplain 5":
        ("case", ("same", C, C), ("cut", "k", 0, ("plain", 1), ("clash", (("round", 0), ("end", 1, 0)))),
         ("case", ("atmost", K, M), ("plain", 4), ("plain", 5))),
    f"clash {len(STEPS)}\n" + "\n".join(STEPS): ("clash", tuple(STEPS.values())),
}


class TestBooks(unittest.TestCase):
    def test_written_and_read_again(self):
        for text, book in BOOKS.items():
            self.assertEqual(show_book(book), text)
            self.assertEqual(read_book(names(), text), book)

    def test_each_step(self):
        for row, step in STEPS.items():
            text, book = "clash 1\n" + row, ("clash", (step,))
            self.assertEqual(show_book(book), text)
            self.assertEqual(read_book(names(), text), book)

    def test_signs_and_wholes_are_of_their_kinds(self):
        step = read_book(names(), "clash 1\ntold ( same x 1 ) yes")[1][0]
        self.assertIs(step[2], True)
        self.assertIs(type(read_book(names(), "plain 1")[1]), int)

    def test_answers_are_written_and_read_again(self):
        many = 0
        for seed in range(150):
            draw = Draw(seed, has_wholes=seed % 2 == 0)
            found = answer(draw.names, draw.told(8, 8))
            if not isinstance(found, World):
                self.assertEqual(read_book(draw.names, show_book(found)), found)
                many += 1
        self.assertGreater(many, 30)

    def test_a_thousand_deep(self):
        for side in (0, 1):
            book = ("plain", 0)
            for turn in range(1500):
                head = ("case", ("same", X, Y)) if turn % 2 else ("cut", "k", turn)
                book = head + ((book, ("plain", 1)) if side else (("plain", 1), book))
            text = show_book(book)
            self.assertEqual(text.count("\n"), 3000)
            told = read_book(names(), text)
            self.assertEqual(show_book(told), text)
            # Tuples of such a depth can't be compared at once.
            while book[0] != "plain":
                at = -2 if side else -1
                self.assertEqual(told[:at] if side else told[:-1], book[:at] if side else book[:-1])
                told, book = told[at], book[at]
            self.assertEqual(told, book)

    def test_no_text_of_steps(self):
        rows = ["", " ", "told", "told ( below x y )", "told yes", "told ( below x y ) True", "told ( below x y ) yes ",
                " told ( below x y ) yes", "told  ( below x y ) yes", "told ( below x y ) yes yes", "told ( not ( same x y ) ) yes",
                "told ( and ) yes", "told x yes", "told ( below x y yes", "bound k", "bound k lower", "bound k low high", "bound 1 low",
                "bound K low", "bound abcdefghi low", "bound k Low", "sum", "sum 0", "sum 0 1 1", "sum 0 1/1", "sum - 1", "sum 0 -",
                "sum -1 1", "sum 00 1", "sum 0 1 ", "sum ( 0 1 )", "sum x 1", "sum 0 x", "sum 1/2 1", "both", "both 0", "both 0 1 2",
                "both - 0", "both 0 -", "both 0 -1", "apart 0 x", "apart x y", "apart 0 x y y", "apart 00 x y", "apart None x y",
                "apart -1 x y", "apart ( 0 ) x y", "apart 0 ( and ) x", "round", "round -", "round 0 0", "round -1", "round 1/2",
                "like x y", "like x y ( )", "like x y 0", "like x y ( 0", "like x y 0 )", "like x y ( 0 ) 0", "like x ( 0 ) y",
                "like x y ( 00 )", "like x y ( -1 )", "like x y (0)", "like x y (  0 )", "like x ( 0 )", "like x ( same x y ) ( 0 )",
                "chain x y", "chain ( ) x y", "chain 0 x y", "chain ( 0 ) x", "chain ( 0 ) x y y", "chain ( 0 x ) x y", "chain ( 0 x y",
                "hit x", "hit 0 0 0", "hit x 0 0", "hit x y", "hit x ( 0 )", "hit - x", "miss x", "miss x x", "miss", "miss x -1",
                "end", "end -", "end 0 -", "end 0 1 2", "end -1", "end 01", "end x", "End 0", "ending 0", "told\t( below x y ) yes",
                "plain 0", "case ( same x y )", "tight 0", "end 1" + "0" * 2000]
        for row in rows:
            refused(self, NoText, read_book, names(), "clash 1\n" + row)
            refused(self, NoText, read_book, names(), f"clash 2\n{row}\nend 0")

    def test_no_text(self):
        texts = ["", " ", "\n", "plain", "plain ", "plain x", "plain -", "plain -1", "plain 00", "plain 01", "plain 0 0", "plain  0",
                 " plain 0", "plain 0 ", "plain 0\n", "\nplain 0", "plain 0\nplain 0", "plain 1/2", "plain 1" + "0" * 2000, "Plain 0",
                 "clash", "clash 0", "clash 0\nend 0", "clash 1", "clash 1\n", "clash 2\nend 0", "clash 1\nend 0\nend 0",
                 "clash 01\nend 0", "clash -\nend 0", "clash 1 \nend 0", "clash x\nend 0", "clash -1\nend 0", "clash 1\nend 0\n",
                 "clash 9" + "0" * 1999 + "\nend 0", "clash\nend 0", "clash 1 1\nend 0", "clash 1\n\nend 0",
                 "case", "case ( same x y )", "case ( same x y )\nplain 0", "case\nplain 0\nplain 0", "case ( same x y )\nplain 0\nplain 0\nplain 0",
                 "case x\nplain 0\nplain 0", "case ( and )\nplain 0\nplain 0", "case ( not ( same x y ) )\nplain 0\nplain 0",
                 "case  ( same x y )\nplain 0\nplain 0", "case ( same x y ) \nplain 0\nplain 0", "case ( same x y\nplain 0\nplain 0",
                 "case ( same x y ) x\nplain 0\nplain 0", "case ( same x y )\n\nplain 0\nplain 0", "case ( same x y )\nplain 0\nend 0",
                 "case ( same x y )\ncase ( same x y )\nplain 0\nplain 0", "plain 0\ncase ( same x y )\nplain 0",
                 "cut", "cut k", "cut k 0", "cut k 0\nplain 0", "cut k\nplain 0\nplain 0", "cut k 1/2\nplain 0\nplain 0",
                 "cut k -0\nplain 0\nplain 0", "cut k 00\nplain 0\nplain 0", "cut k 0 1\nplain 0\nplain 0", "cut 0 k\nplain 0\nplain 0",
                 "cut K 0\nplain 0\nplain 0", "cut abcdefghi 0\nplain 0\nplain 0", "cut k +1\nplain 0\nplain 0",
                 "cut ( plus ) 0\nplain 0\nplain 0", "book\nplain 0", "told ( below x y ) yes", "plain 0\r\n", "( and )"]
        for text in texts:
            refused(self, NoText, read_book, names(), text)

    def test_terms_and_atoms_that_are_none_of_the_names(self):
        for row in ("told ( same x c ) yes", "told ( below z x ) no", "told ( same a b ) yes",
                    "told ( below " + "( plus " * 11 + "x" + " )" * 11 + " x ) yes"):
            refused(self, BadStatement, read_book, names(), "clash 1\n" + row)
        for row in ("apart 0 z x", "apart - x ( call f c )", "like ( call z x ) x ( 0 )", "chain ( 0 ) c z", "hit ( read x x ) -",
                    "miss ( plus c ) 0", "hit " + "( plus " * 12 + "x" + " )" * 12 + " -"):
            refused(self, BadTerm, read_book, names(), "clash 1\n" + row)
        for atom in ("( same x c )", "( below z x )", "( below c c )"):
            refused(self, BadStatement, read_book, names(), f"case {atom}\nplain 0\nplain 0")
            refused(self, BadStatement, read_book, names(), f"cut k 0\nplain 0\ncase {atom}\nplain 0\nplain 0")

    def test_no_text_comes_first(self):
        refused(self, NoText, read_book, names(), "case ( same x c )\nplain 0")
        refused(self, NoText, read_book, names(), "clash 2\napart 0 z z\nend -")
        refused(self, NoText, read_book, names(), "case ( same z z )\nplain 0\nplain 00")

    def test_deep_terms(self):
        for many in (61, 1000):
            with self.assertRaises((NoText, BadTerm)):
                read_book(names(), "clash 1\nhit " + "( plus " * many + "x" + " )" * many + " -")
            with self.assertRaises((NoText, BadStatement)):
                read_book(names(), "case ( same x " + "( plus " * many + "x" + " )" * many + " )\nplain 0\nplain 0")

    def test_a_book_that_is_not_let_by_is_read(self):
        for text in ("plain 77", "clash 1\nend 9", "clash 2\nsum 7 1 8 -1\nend 3 4", "cut x 0\nplain 0\nplain 0",
                     "clash 3\nend 0\nend 1\nround 2"):
            self.assertEqual(show_book(read_book(names(), text)), text)


class TestOwn(unittest.TestCase):
    def test_what_is_handed_in_stays(self):
        own_names = names()
        before = copy.deepcopy(vars(own_names))
        for text in TERMS:
            read_term(own_names, text)
        for text in STATEMENTS:
            read_statement(own_names, text)
        for text, book in BOOKS.items():
            kept = copy.deepcopy(book)
            self.assertEqual(read_book(own_names, text), read_book(own_names, text))
            show_book(book)
            self.assertEqual(book, kept)
        self.assertEqual(show_names(own_names), show_names(own_names))
        self.assertEqual(vars(own_names), before)

    def test_names_that_are_read_are_the_askers_own(self):
        text = show_names(names())
        one, other = read_names(text), read_names(text)
        one.all_numbers().append("zz")
        one.all_functions().clear()
        self.assertEqual(show_names(one), text)
        self.assertEqual(show_names(other), text)
        self.assertIsNone(other.kind("zz"))
        self.assertEqual(unknown("x"), read_term(one, "x"))


if __name__ == "__main__":
    unittest.main()
