import unittest

from asks import COUNTED, NOT_FOUND
from faultwood import desk as file
from faultwood.alone import alone
from faultwood.asking import least_asked
from faultwood.desk import Desk, answered
from faultwood.lines import bound_for, line_of
from faultwood.odds import odds_by_states
from faultwood.reading import read
from faultwood.sets import cuts, keeps
from faultwood.shares import share_text
from faultwood.spares import cheapest, chosen
from faultwood.trees import falls, odds_of, tree_of
from faultwood.weights import order_of, weight_of
from models import IN_A_RING, MIDDLE_ON_TOP, ONE, PART_ON_TOP, SHARED, TEXTS
from offers import BOUGHT, KINDS, OFFERS, RING, TOO_MANY_WAYS
from things import many_parts, no_texts, own_names, refusal, works_text

NAMES = {"Desk", "answered"}

# The odds of the top are 1/3 and 2/3 times those of a.
PLAIN = "part a 2/4\npart b 1/3\nbetter a 1/4 10\nspare b 3 2\ngate g any a b\ntop g"

# Nothing that only asks, and nothing that is refused.
ASKING = (
    "odds", "cuts", "keeps", "weights", "alone", "state", "line a", "bound a 1/2", "bound a 0/1", "fall", "fall a",
    "tests a", "tests a / b", "tests",
)
REFUSED = ("", "put", "put c 1/2", "put a 5/4", "put a", "plain plain", "undo 1", "cheapest", "cheapest 0/1",
           "cheapest 3/2", "cheapest 1/0", "line c", "bound a 2/1", "fall c", "fall a a", "tests a b a", "PUT a 1/2")


def told(text, *lines):
    """Tell the answers of these lines."""
    return answered(text, list(lines))


class File(unittest.TestCase):
    def test_it_defines_each_name(self):
        self.assertEqual(own_names(file) & NAMES, NAMES)
        self.assertIn("told", vars(Desk))


class Asking(unittest.TestCase):
    def test_odds(self):
        self.assertEqual(told(PLAIN, "odds"), ["2/3"])
        self.assertEqual(told(ONE, "odds"), ["1/2"])
        self.assertEqual(told("part a 0/7\ngate g any a\ntop g", "odds"), ["0/1"])
        self.assertEqual(told("part a 7/7\ngate g any a\ntop g", "odds"), ["1/1"])

    def test_cuts_and_keeps(self):
        self.assertEqual(told(PLAIN, "cuts", "keeps"), ["a | b", "a b"])
        self.assertEqual(told(PLAIN.replace("any", "all"), "cuts", "keeps"), ["a b", "a | b"])
        text = "part b 1/2\npart c 1/2\npart a 1/2\ngate g all a c\ngate h any g b\ntop h"
        self.assertEqual(told(text, "cuts", "keeps"), ["b | c a", "b c | b a"])

    def test_weights(self):
        self.assertEqual(told(PLAIN, "weights"), ["a 2/3, b 1/2"])
        self.assertEqual(told(PLAIN.replace("any", "all"), "weights"), ["b 1/2, a 1/3"])
        self.assertEqual(told(ONE, "weights"), ["a 1/1"])

    def test_like_weights_by_the_parts_numbers(self):
        text = "part c 1/2\npart a 1/2\npart b 1/2\ngate g any a b c\ntop g"
        self.assertEqual(told(text, "weights"), ["c 1/4, a 1/4, b 1/4"])
        self.assertEqual(told(text, "put b 1/3", "weights"), ["done", "c 1/3, a 1/3, b 1/4"])
        self.assertEqual(told(PART_ON_TOP, "weights"), ["b 1/1, a 0/1"])

    def test_alone(self):
        self.assertEqual(told(PLAIN, "alone"), ["g"])
        self.assertEqual(told(MIDDLE_ON_TOP, "alone"), ["-"])
        self.assertEqual(told(PART_ON_TOP, "alone"), ["-"])
        text = works_text(parts=many_parts(4), tops=["top i"],
                          gates=["gate h all p0 p1", "gate g any p2 p3", "gate i 2 g h"])
        self.assertEqual(told(text, "alone"), ["h g i"])
        self.assertEqual(told(text.replace("top i", "top g"), "alone"), ["h g"])
        self.assertEqual(told(text.replace("\ngate i 2 g h\ntop i", "\ntop h"), "alone"), ["h g top"])
        self.assertEqual(told("part a 1/2\npart b 1/2\ngate g any a\ntop b", "alone"), ["g top"])

    def test_state(self):
        self.assertEqual(told(PLAIN, "state"), ["a 1/2, b 1/3"])
        self.assertEqual(told(ONE, "state"), ["a 1/2"])
        self.assertEqual(told("part b 6/1000\npart a 0/9\npart c 5/5\ngate g any a\ntop g", "state"),
                         ["b 3/500, a 0/1, c 1/1"])

    def test_line(self):
        self.assertEqual(told(PLAIN, "line a", "line b"), ["1/3 2/3", "1/2 1/2"])
        self.assertEqual(told(ONE, "line a"), ["0/1 1/1"])
        self.assertEqual(told(PLAIN, "put a 1/9", "line a", "line b"), ["done", "1/3 2/3", "1/9 8/9"])

    def test_bound(self):
        self.assertEqual(
            told(PLAIN, "bound a 1/2", "bound a 2/4", "bound a 1/3", "bound a 333/1000", "bound a 1/1", "bound a 0/5"),
            ["1/4", "1/4", "0/1", "none", "1/1", "none"],
        )
        self.assertEqual(told(PART_ON_TOP, "bound a 1/2", "bound a 1/3", "bound b 1/3"), ["1/1", "none", "1/3"])

    def test_fall(self):
        self.assertEqual(told(PLAIN, "fall", "fall a", "fall b", "fall a b", "fall b a"),
                         ["goes on", "stops", "stops", "stops", "stops"])
        self.assertEqual(told(PLAIN.replace("any", "all"), "fall", "fall a", "fall b", "fall a b", "fall b a"),
                         ["goes on", "goes on", "goes on", "stops", "stops"])
        self.assertEqual(told(IN_A_RING, "fall p0 p4", "fall p5 p0", "fall p4"), ["stops", "goes on", "goes on"])

    def test_tests(self):
        text = works_text(parts=many_parts(4), gates=["gate g any p0"])
        for line, wanted in (
            ("tests p0 p1 / p0 p2", "2"), ("tests p0 p1 / p2 p0 / p3", "2"), ("tests p0 / p1 / p2", "3"),
            ("tests p0", "none"), ("tests p0 p1 p2 p3", "none"), ("tests p0 / p1", "none"), ("tests p1 p0 / p3", "none"),
            ("tests p0 / p1 p2 / p1 p3 / p0", "2"),
        ):
            with self.subTest(line=line):
                self.assertEqual(told(text, line), [wanted])
        self.assertEqual(told(ONE, "tests a", "tests a / a"), ["0", "0"])
        self.assertEqual(told(PLAIN, "tests a", "tests b", "tests a b"), ["1", "1", "none"])

    def test_tests_as_least_asked_tells(self):
        for many, questions, wanted in COUNTED + tuple((many, asked, "none") for many, asked in NOT_FOUND):
            if 0 not in questions:
                text = works_text(parts=many_parts(many), gates=["gate g any p0"])
                names = [" ".join(f"p{i}" for i in range(many) if asked & 2 ** i) for asked in questions]
                with self.subTest(many=many, questions=questions):
                    self.assertEqual(told(text, "tests " + " / ".join(names)), [str(wanted)])

    def test_more_questions_or_parts(self):
        self.assertEqual(told(PLAIN, "tests " + " / ".join(["a"] * 13)), ["bad tests"])
        self.assertEqual(told(PLAIN, "tests " + " / ".join(["a b"] * 14)), ["bad tests"])
        self.assertEqual(told(PLAIN, "tests " + " / ".join(["a b"] * 12)), ["none"])
        self.assertIn(told(PLAIN, "tests " + " / ".join(["a"] * 12)), (["1"], ["too many"]))
        text = works_text(parts=many_parts(12), gates=["gate g any p0"])
        line = "tests " + " / ".join(f"p{i}" for i in range(11))
        self.assertIn(told(text, line), (["11"], ["too many"]))

    def test_as_all_files_tell(self):
        for text in (*TEXTS, *OFFERS):
            works = read(text)
            tree, odds = tree_of(works), odds_of(works)
            names = [part[0] for part in works[0]]
            rows = names + [gate[0] for gate in works[3]] + ["top"]
            sets = [" | ".join(" ".join(names[i] for i in range(len(names)) if bits & 2 ** i) for bits in made(tree))
                    for made in (cuts, keeps)]
            weights = [f"{names[i]} {share_text(weight_of(tree, odds, i))}" for i in order_of(tree, odds)]
            wanted = [
                share_text(odds_by_states(tree, odds)), *sets, ", ".join(weights),
                " ".join(rows[at] for at in alone(tree)) or "-",
                ", ".join(f"{name} {share_text(one)}" for name, one in zip(names, odds)),
            ]
            with self.subTest(text=text):
                self.assertEqual(told(text, "odds", "cuts", "keeps", "weights", "alone", "state"), wanted)
                for i, name in enumerate(names):
                    found = told(text, f"line {name}", f"bound {name} 1/3", f"fall {name}")
                    bound = bound_for(tree, odds, i, (1, 3))
                    self.assertEqual(found, [
                        " ".join(share_text(one) for one in line_of(tree, odds, i)),
                        "none" if bound is None else share_text(bound),
                        "stops" if falls(tree, 2 ** i) else "goes on",
                    ])


class Changing(unittest.TestCase):
    def test_put(self):
        self.assertEqual(
            told(PLAIN, "put a 1/5", "state", "odds", "put b 2/4", "state", "odds", "put a 0/7", "put b 1/1", "state"),
            ["done", "a 1/5, b 1/3", "7/15", "done", "a 1/5, b 1/2", "3/5", "done", "done", "a 0/1, b 1/1"],
        )

    def test_put_of_great_numbers(self):
        great = "1" + "0" * 100
        self.assertEqual(told(ONE, f"put a 5/{great}", "odds"), ["done", "1/2" + "0" * 99])

    def test_plain(self):
        self.assertEqual(told(PLAIN, "put a 1/5", "put b 1/5", "plain", "state", "plain", "state"),
                         ["done", "done", "done", "a 1/2, b 1/3", "done", "a 1/2, b 1/3"])

    def test_undo(self):
        self.assertEqual(
            told(PLAIN, "undo", "put a 1/5", "put b 1/5", "undo", "state", "undo", "state", "undo", "state"),
            ["nothing", "done", "done", "done", "a 1/5, b 1/3", "done", "a 1/2, b 1/3", "nothing", "a 1/2, b 1/3"],
        )

    def test_undo_of_each_change(self):
        self.assertEqual(
            told(PLAIN, "put a 1/5", "plain", "cheapest 1/2", "state", "undo", "state", "undo", "state", "undo", "state",
                 "undo"),
            ["done", "done", "10: 1 0", "a 1/4, b 1/3", "done", "a 1/2, b 1/3", "done", "a 1/5, b 1/3", "done",
             "a 1/2, b 1/3", "nothing"],
        )

    def test_a_change_to_the_same_odds_is_one(self):
        self.assertEqual(told(PLAIN, "put a 1/2", "plain", "cheapest 1/1", "undo", "undo", "undo", "undo"),
                         ["done", "done", "0: 0 0", "done", "done", "done", "nothing"])

    def test_undo_then_other_changes(self):
        self.assertEqual(
            told(PLAIN, "put a 1/5", "undo", "put a 1/7", "put a 1/9", "undo", "state", "undo", "state", "undo"),
            ["done", "done", "done", "done", "done", "a 1/7, b 1/3", "done", "a 1/2, b 1/3", "nothing"],
        )

    def test_cheapest(self):
        for limit, wanted, state, odds in (
            ("1/1", "0: 0 0", "a 1/2, b 1/3", "2/3"), ("2/3", "0: 0 0", "a 1/2, b 1/3", "2/3"),
            ("5/9", "3: 0 1", "a 1/2, b 1/9", "5/9"), ("11/20", "6: 0 2", "a 1/2, b 1/27", "14/27"),
            ("2/4", "10: 1 0", "a 1/4, b 1/3", "1/2"), ("1/3", "13: 1 1", "a 1/4, b 1/9", "1/3"),
            ("5/18", "16: 1 2", "a 1/4, b 1/27", "5/18"), ("27/100", "none", "a 1/2, b 1/3", "2/3"),
            ("0/1", "none", "a 1/2, b 1/3", "2/3"),
        ):
            with self.subTest(limit=limit):
                self.assertEqual(told(PLAIN, f"cheapest {limit}", "state", "odds"), [wanted, state, odds])

    def test_cheapest_by_the_works_own_odds(self):
        self.assertEqual(
            told(PLAIN, "put a 0/1", "put b 0/1", "odds", "cheapest 1/2", "state", "undo", "state"),
            ["done", "done", "0/1", "10: 1 0", "a 1/4, b 1/3", "done", "a 0/1, b 0/1"],
        )
        self.assertEqual(told(PLAIN, "put a 1/1", "cheapest 2/3", "state"), ["done", "0: 0 0", "a 1/2, b 1/3"])

    def test_cheapest_that_none_does(self):
        self.assertEqual(told(PLAIN, "put a 1/9", "cheapest 0/1", "state", "undo", "undo"),
                         ["done", "none", "a 1/9, b 1/3", "done", "nothing"])

    def test_cheapest_of_too_many(self):
        found = told(TOO_MANY_WAYS, "cheapest 9/10", "undo", "cheapest 0/1")
        self.assertIn(found[:2], (["too many", "nothing"], [found[0], "done"]))
        self.assertEqual(found[2], "none")

    def test_cheapest_as_spares_tell(self):
        for text in (BOUGHT, RING, KINDS):
            works = read(text)
            names = [part[0] for part in works[0]]
            for limit in ((1, 2), (1, 5), (1, 8), (1, 20)):
                found = told(text, f"cheapest {limit[0]}/{limit[1]}", "state", "odds")
                with self.subTest(text=text, limit=limit):
                    if refusal(cheapest, works, limit):
                        self.assertEqual(found[0], "none")
                        continue
                    price, choices, _ = cheapest(works, limit)
                    odds = chosen(works, choices)[1]
                    self.assertEqual(found, [
                        f"{price}: " + " ".join(str(c) for c in choices),
                        ", ".join(f"{name} {share_text(one)}" for name, one in zip(names, odds)),
                        share_text(odds_by_states(tree_of(works), odds)),
                    ])

    def test_what_only_asks_or_is_refused_changes_nothing(self):
        for lines in (ASKING, REFUSED):
            for line in lines:
                desk = Desk(PLAIN)
                with self.subTest(line=line):
                    desk.told(line)
                    self.assertEqual(desk.told("undo"), "nothing")
                    self.assertEqual(desk.told("put a 1/7"), "done")
                    desk.told(line)
                    self.assertEqual(desk.told("state"), "a 1/7, b 1/3")
                    self.assertEqual(desk.told("undo"), "done")
                    desk.told(line)
                    self.assertEqual(desk.told("undo"), "nothing")
                    self.assertEqual(desk.told("state"), "a 1/2, b 1/3")

    def test_desks_apart(self):
        one, other = Desk(PLAIN), Desk(PLAIN)
        self.assertEqual(one.told("put a 1/7"), "done")
        self.assertEqual(other.told("state"), "a 1/2, b 1/3")
        self.assertEqual(other.told("undo"), "nothing")


class Refusing(unittest.TestCase):
    def assert_all(self, wanted, *lines):
        for line in lines:
            with self.subTest(line=line):
                self.assertEqual(Desk(PLAIN).told(line), wanted)

    def test_no_line(self):
        self.assert_all("bad line", "", " ", "  ", "x", "ODDS", "Odds", "odd", "oddss", "part a 1/2", "top g", "#", "a")

    def test_blanks(self):
        for line in ("odds", "cuts", "keeps", "weights", "alone", "state", "plain", "undo", "put a 1/2", "cheapest 1/2",
                     "line a", "bound a 1/2"):
            self.assert_all("bad line", " " + line, line + " ", "  " + line, line + "  ", line.replace(" ", "  ", 1) + " ")
            if " " in line:
                self.assert_all("bad line", line.replace(" ", "  "))
        self.assert_all("bad line", " fall", " fall a", " tests a", "\nodds", "odds\n", "odds\nodds")

    def test_great_letters(self):
        self.assert_all("bad line", "ODDS", "Cuts", "KEEPS", "Weights", "aLone", "State", "Put a 1/2", "PLAIN", "Undo",
                        "CHEAPEST 1/2", "Line a", "Bound a 1/2", "Fall", "FALL a", "Tests a", "TESTS a / b")
        self.assert_all("bad name", "put A 1/2", "line A", "bound A 1/2", "fall A", "tests A")

    def test_a_word_too_many_or_too_few(self):
        for line in ("odds", "cuts", "keeps", "weights", "alone", "state", "plain", "undo"):
            self.assert_all("bad line", line + " a", line + " 1/2", line + " " + line)
        self.assert_all("bad line", "put", "put a", "put 1/2", "put a 1/2 1/2", "put a b 1/2", "cheapest",
                        "cheapest 1/2 1/2", "cheapest a 1/2", "line", "line a b", "line a 1/2", "bound", "bound a",
                        "bound 1/2", "bound a 1/2 a", "bound a b 1/2", "put c", "put a 5/4 5/4", "line c d",
                        "cheapest 5/4 5/4", "tests")

    def test_bad_names(self):
        for name in ("c", "g", "top", "1/2", "", "ab", "a,", "/", "A", "a\n"):
            self.assert_all("bad name", f"put {name} 1/2", f"line {name}", f"bound {name} 1/2", f"fall {name}",
                            f"fall a {name}", f"fall {name} a", f"fall a {name} b", f"tests {name}", f"tests a {name}",
                            f"tests a / b {name}", f"tests {name} b / a")

    def test_the_same_name_twice(self):
        self.assert_all("bad name", "fall a a", "fall a b a", "fall b b", "tests a a", "tests a / b b", "tests a b a / b")
        self.assert_all("1", "tests a / a", "tests a / b / a b")

    def test_bad_names_ahead_of_all_else(self):
        self.assert_all("bad name", "put c 5/4", "put g x", "put 1/2 a", "bound c 2/1", "bound a/b -1/2", "bound  1/0")
        many = " / ".join(["a"] * 12)
        self.assert_all("bad name", f"tests {many} / c", f"tests c / {many}", f"tests {many} / a a", f"tests {many} / g")
        self.assert_all("bad tests", f"tests {many} / a", f"tests {many} / b / a b")

    def test_bad_odds(self):
        for odds in ("5/4", "2/1", "-1/2", "1/-2", "1/0", "0/0", "1", "0", "a", "", "/", "1/", "/2", "1//2", "1/2/3",
                     "01/2", "1/02", "+1/2", "1.5/2", "1/2\n", "one/two", "1001/1000"):
            self.assert_all("bad odds", f"put a {odds}", f"cheapest {odds}", f"bound a {odds}")

    def test_odds_in_any_terms(self):
        for odds, wanted in (("2/4", "1/2"), ("0/7", "0/1"), ("1/1", "1/1"), ("7/7", "1/1"), ("0/1", "0/1"),
                             ("10000000000/30000000000", "1/3")):
            self.assertEqual(told(PLAIN, f"put a {odds}", "state"), ["done", f"a {wanted}, b 1/3"])

    def test_empty_words_in_falls_and_questions(self):
        self.assert_all("bad name", "fall ", "fall  ", "fall a ", "fall  a", "fall a  b", "tests ", "tests  ", "tests a ",
                        "tests  a", "tests a  b", "tests a / b ", "tests a /  b")

    def test_empty_questions(self):
        self.assert_all("bad name", "tests /", "tests / a", "tests a /", "tests a / ", "tests a / / b", "tests a /  / b",
                        "tests  / a", "tests / / a", "tests / ", "tests  / ")

    def test_bars_without_blanks(self):
        self.assert_all("bad name", "tests a/b", "tests a/ b", "tests a /b", "tests a // b")


class Wrong(unittest.TestCase):
    def test_what_is_no_text_of_works(self):
        for text in [*no_texts(), "", "part a 1/2", PLAIN + "\ntop g", "x" * 8001, "\n" * 400, [PLAIN], PLAIN.encode()]:
            wanted = refusal(read, text)
            self.assertEqual(wanted[0], "BadText")
            for made in (Desk, lambda text: answered(text, []), lambda text: answered(text, ["odds"]),
                         lambda text: answered(text, None), lambda text: answered(text, [None])):
                with self.subTest(text=repr(text)):
                    self.assertEqual(refusal(made, text), wanted)

    def test_works_that_do_not_fit(self):
        for text in (
            PLAIN.replace("part b", "part a"), PLAIN.replace("top g", "top h"), PLAIN.replace("1/3", "4/3"),
            PLAIN.replace("any a b", "3 a b"), PLAIN.replace("any a b", "any a a"), PLAIN.replace("spare b", "spare c"),
        ):
            wanted = refusal(read, text)
            self.assertIsNotNone(wanted)
            self.assertEqual(refusal(Desk, text), wanted)
            self.assertEqual(refusal(answered, text, ["odds"]), wanted)
            self.assertEqual(refusal(answered, text, [3]), wanted)

    def test_told_of_what_is_no_text(self):
        desk = Desk(PLAIN)
        self.assertEqual(desk.told("put a 1/7"), "done")
        for line in [*no_texts(), b"odds", ["odds"], ("odds",), {"odds": 1}]:
            with self.subTest(line=repr(line)):
                self.assertEqual(refusal(desk.told, line), ("BadLine",))
        self.assertEqual(desk.told("state"), "a 1/7, b 1/3")
        self.assertEqual(desk.told("undo"), "done")
        self.assertEqual(desk.told("undo"), "nothing")

    def test_answered_of_what_is_no_text(self):
        for line in [*no_texts(), b"odds", ["odds"], ("odds",)]:
            for lines in ([line], ["odds", line], [line, "odds"], ["put a 1/7", "x", line]):
                with self.subTest(lines=repr(lines)):
                    self.assertEqual(refusal(answered, PLAIN, lines), ("BadLine",))

    def test_answered_of_what_is_no_list(self):
        for lines in [*no_texts(), "odds", "", ("odds",)]:
            if type(lines) is not list:
                with self.subTest(lines=repr(lines)):
                    self.assertEqual(refusal(answered, PLAIN, lines), ("BadLine",))


class Answered(unittest.TestCase):
    def test_line_by_line(self):
        lines = [*ASKING, "put a 1/7", *REFUSED, *ASKING, "undo", "cheapest 1/2", *ASKING, "plain", "undo", "undo", "undo"]
        for text in (PLAIN, PLAIN.replace("any", "all")):
            desk = Desk(text)
            self.assertEqual(answered(text, lines), [desk.told(line) for line in lines])
            self.assertEqual(answered(text, lines), answered(text, lines))

    def test_no_lines(self):
        self.assertEqual(answered(PLAIN, []), [])

    def test_lines_and_answers_are_the_askers_own(self):
        lines = ["odds", "put a 1/5", "odds"]
        found = answered(PLAIN, lines)
        self.assertEqual(lines, ["odds", "put a 1/5", "odds"])
        self.assertIs(type(found), list)
        found[0] = None
        found.append(lines)
        lines.append("x")
        self.assertEqual(answered(PLAIN, lines[:3]), ["2/3", "done", "7/15"])
        empty = []
        self.assertIsNot(answered(PLAIN, empty), empty)

    def test_each_answer_is_a_text(self):
        for line in (*ASKING, *REFUSED, "put a 1/2", "plain", "undo", "cheapest 1/2"):
            self.assertIs(type(Desk(PLAIN).told(line)), str)
            self.assertIs(type(Desk(SHARED).told(line)), str)


class Questions(unittest.TestCase):
    def test_the_count_is_that_of_least_asked(self):
        text = works_text(parts=many_parts(5), gates=["gate g any p0"])
        for questions in ((1, 2, 4, 8), (3, 5, 24), (7, 11, 21)):
            names = [" ".join(f"p{i}" for i in range(5) if asked & 2 ** i) for asked in questions]
            wanted = "none" if refusal(least_asked, 5, questions) else str(least_asked(5, questions)[0])
            self.assertEqual(told(text, "tests " + " / ".join(names)), [wanted])


if __name__ == "__main__":
    unittest.main()
