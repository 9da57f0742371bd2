import unittest

from faultwood.reading import read
from things import many_parts, refusal, works_text

FULL = """
# the pump and its belt
part pump 1/20
  part   belt 2/40    # worn
part line 0/7

better pump 1/50 300
better belt 0/1 0
better pump 1000/1000 1000000
spare line 25 3
spare belt 0 1

gate drive any pump belt
gate feed all line drive pump#belt
gate whole 2 feed drive
gate one 1 belt
gate only all line
brings belt pump
brings pump belt
brings belt line
top drive
# the end
"""


def refused(**rows):
    """Tell the refusal of the small text with these rows."""
    return refusal(read, works_text(**rows))


class Parts(unittest.TestCase):
    def test_a_name_that_is_there(self):
        self.assertEqual(refused(parts=["part a 1/2", "part a 1/2"]), ("Twice", 1, "a"))
        self.assertEqual(refused(parts=["part a 1/2", "part b 1/2", "part c 1/2", "part b 1/3"]), ("Twice", 3, "b"))
        self.assertEqual(refused(parts=["part b 1/2", "", "# c", "part b 1/3"]), ("Twice", 3, "b"))

    def test_odds_out_of_bounds(self):
        for odds in ("0/0", "1/0", "1/1001", "0/1001", "2/1", "1/1000000", "1001/1000", "3/2", "9999999/9999999"):
            with self.subTest(odds=odds):
                self.assertEqual(refused(parts=["part a 1/2", f"part b {odds}"]), ("BadNumber", 1))

    def test_odds_at_their_bounds(self):
        for odds in ("0/1", "1/1", "0/1000", "1/1000", "999/1000", "1000/1000", "0/7", "7/7", "2/4"):
            with self.subTest(odds=odds):
                self.assertIsNone(refused(parts=["part a 1/2", f"part b {odds}"]))

    def test_the_name_ahead_of_the_odds(self):
        self.assertEqual(refused(parts=["part a 1/2", "part a 2/1"]), ("Twice", 1, "a"))


class Betters(unittest.TestCase):
    def test_a_name_that_no_part_has(self):
        for name in ("c", "g", "ab"):
            with self.subTest(name=name):
                self.assertEqual(refused(betters=[f"better {name} 1/5 20"]), ("Lacking", 2, name))

    def test_one_part_as_often_as_it_likes(self):
        self.assertIsNone(refused(betters=["better a 1/5 20", "better b 1/5 20", "better a 1/5 20"]))

    def test_odds_out_of_bounds(self):
        for odds in ("0/0", "1/0", "1/1001", "0/1001", "2/1", "1001/1000", "3/2"):
            with self.subTest(odds=odds):
                self.assertEqual(refused(betters=[f"better a {odds} 20"]), ("BadNumber", 2))

    def test_odds_at_their_bounds(self):
        for odds in ("0/1", "1/1", "0/1000", "1/1000", "1000/1000"):
            with self.subTest(odds=odds):
                self.assertIsNone(refused(betters=[f"better a {odds} 20"]))

    def test_prices(self):
        for price, wanted in (
            (0, None), (1, None), (999999, None), (1000000, None), (1000001, ("BadNumber", 2)),
            (9999999, ("BadNumber", 2)),
        ):
            with self.subTest(price=price):
                self.assertEqual(refused(betters=[f"better a 1/5 {price}"]), wanted)

    def test_the_name_ahead_of_the_numbers(self):
        self.assertEqual(refused(betters=["better c 2/1 1000001"]), ("Lacking", 2, "c"))


class Spares(unittest.TestCase):
    def test_a_name_that_no_part_has(self):
        for name in ("c", "g"):
            with self.subTest(name=name):
                self.assertEqual(refused(spares=[f"spare {name} 5 1"]), ("Lacking", 2, name))

    def test_a_part_that_has_spares(self):
        self.assertEqual(refused(spares=["spare a 5 1", "spare a 5 1"]), ("Twice", 3, "a"))
        self.assertEqual(refused(spares=["spare a 5 1", "spare b 5 1", "spare a 6 2"]), ("Twice", 4, "a"))

    def test_a_part_that_has_betters_may_have_spares(self):
        self.assertIsNone(refused(betters=["better a 1/5 20"], spares=["spare a 5 1"]))

    def test_prices(self):
        for price, wanted in ((0, None), (1000000, None), (1000001, ("BadNumber", 2))):
            with self.subTest(price=price):
                self.assertEqual(refused(spares=[f"spare a {price} 1"]), wanted)

    def test_how_many(self):
        for most in range(12):
            with self.subTest(most=most):
                wanted = None if 1 <= most <= 3 else ("BadNumber", 2)
                self.assertEqual(refused(spares=[f"spare a 5 {most}"]), wanted)

    def test_the_name_ahead_of_the_numbers(self):
        self.assertEqual(refused(spares=["spare c 1000001 0"]), ("Lacking", 2, "c"))
        self.assertEqual(refused(spares=["spare a 5 1", "spare a 1000001 1"]), ("Twice", 3, "a"))
        self.assertEqual(refused(spares=["spare a 5 1", "spare a 5 4"]), ("Twice", 3, "a"))


class Gates(unittest.TestCase):
    def test_a_name_that_is_there(self):
        self.assertEqual(refused(gates=["gate a any b"]), ("Twice", 2, "a"))
        self.assertEqual(refused(gates=["gate b any a"]), ("Twice", 2, "b"))
        self.assertEqual(refused(gates=["gate g any a", "gate g any b"]), ("Twice", 3, "g"))
        self.assertEqual(refused(gates=["gate g any a", "gate h any b", "gate g any h"]), ("Twice", 4, "g"))

    def test_a_child_that_is_not_there(self):
        for children in ("c", "a c", "c a", "a b c", "a c b"):
            with self.subTest(children=children):
                self.assertEqual(refused(gates=[f"gate g any {children}"]), ("Lacking", 2, "c"))

    def test_itself_as_a_child(self):
        self.assertEqual(refused(gates=["gate g any g"]), ("Lacking", 2, "g"))
        self.assertEqual(refused(gates=["gate g any a g"]), ("Lacking", 2, "g"))

    def test_a_gate_behind_it_as_a_child(self):
        self.assertEqual(refused(gates=["gate g any a h", "gate h any b"]), ("Lacking", 2, "h"))
        self.assertIsNone(refused(gates=["gate h any b", "gate g any a h"]))

    def test_a_child_that_stands_ahead_in_the_row(self):
        self.assertEqual(refused(gates=["gate g any a a"]), ("Twice", 2, "a"))
        self.assertEqual(refused(gates=["gate g any a b a"]), ("Twice", 2, "a"))
        self.assertEqual(refused(gates=["gate h any a", "gate g any a h b h"]), ("Twice", 3, "h"))
        self.assertIsNone(refused(gates=["gate h any a", "gate g any a h"]))

    def test_children_from_the_left(self):
        self.assertEqual(refused(gates=["gate g any a a c"]), ("Twice", 2, "a"))
        self.assertEqual(refused(gates=["gate g any a c a"]), ("Lacking", 2, "c"))
        self.assertEqual(refused(gates=["gate g any c c"]), ("Lacking", 2, "c"))
        self.assertEqual(refused(gates=["gate g any d c"]), ("Lacking", 2, "d"))
        self.assertEqual(refused(gates=["gate g any a b b a"]), ("Twice", 2, "b"))

    def test_how_many_must_fail(self):
        names = [f"p{i}" for i in range(8)]
        for many in range(1, 9):
            children = " ".join(names[:many])
            for least in (0, 1, many - 1, many, many + 1, 9999999):
                with self.subTest(many=many, least=least):
                    wanted = None if 1 <= least <= many else ("BadNumber", 8)
                    self.assertEqual(refused(parts=many_parts(8), gates=[f"gate g {least} {children}"]), wanted)

    def test_the_name_then_the_children_then_the_number(self):
        self.assertEqual(refused(gates=["gate a 0 c"]), ("Twice", 2, "a"))
        self.assertEqual(refused(gates=["gate g 0 c"]), ("Lacking", 2, "c"))
        self.assertEqual(refused(gates=["gate g 3 a a"]), ("Twice", 2, "a"))
        self.assertEqual(refused(gates=["gate g 3 a b"]), ("BadNumber", 2))


class Brings(unittest.TestCase):
    def test_a_name_that_no_part_has(self):
        for pair, name in (("c a", "c"), ("a c", "c"), ("g a", "g"), ("a g", "g"), ("c d", "c"), ("d c", "d")):
            with self.subTest(pair=pair):
                self.assertEqual(refused(brings=[f"brings {pair}"]), ("Lacking", 3, name))

    def test_one_name_twice(self):
        self.assertEqual(refused(brings=["brings a a"]), ("Twice", 3, "a"))
        self.assertEqual(refused(brings=["brings a b", "brings b b"]), ("Twice", 4, "b"))
        self.assertEqual(refused(brings=["brings c c"]), ("Lacking", 3, "c"))

    def test_the_same_row_twice(self):
        self.assertEqual(refused(brings=["brings a b", "brings a b"]), ("Twice", 4, "a"))
        self.assertEqual(refused(brings=["brings b a", "brings a b", "brings b a"]), ("Twice", 5, "b"))

    def test_the_other_way_about(self):
        self.assertIsNone(refused(brings=["brings a b", "brings b a"]))

    def test_one_name_in_other_rows(self):
        parts = many_parts(3)
        rows = ["brings p0 p1", "brings p0 p2", "brings p1 p2", "brings p2 p1"]
        self.assertIsNone(refused(parts=parts, gates=["gate g any p0"], brings=rows))


class Top(unittest.TestCase):
    def test_a_name_that_nothing_has(self):
        self.assertEqual(refused(tops=["top c"]), ("Lacking", 3, "c"))
        self.assertEqual(refused(tops=["", "# top c", "top c"]), ("Lacking", 5, "c"))

    def test_parts_and_gates(self):
        for name in ("a", "b", "g", "h"):
            with self.subTest(name=name):
                works = read(works_text(gates=["gate g any a b", "gate h any g"], tops=[f"top {name}"]))
                self.assertEqual(works[5], name)


class RowByRow(unittest.TestCase):
    WRONG = (
        ("parts", "part a 1/3", ("Twice", "a")), ("parts", "part c 3/2", ("BadNumber",)),
        ("betters", "better c 1/3 5", ("Lacking", "c")), ("betters", "better a 3/2 5", ("BadNumber",)),
        ("betters", "better a 1/2 1000001", ("BadNumber",)),
        ("spares", "spare c 5 1", ("Lacking", "c")), ("spares", "spare a 1000001 1", ("BadNumber",)),
        ("spares", "spare b 5 4", ("BadNumber",)),
        ("gates", "gate a any b", ("Twice", "a")), ("gates", "gate h any c", ("Lacking", "c")),
        ("gates", "gate i any a a", ("Twice", "a")), ("gates", "gate j 2 a", ("BadNumber",)),
        ("brings", "brings c a", ("Lacking", "c")), ("brings", "brings a d", ("Lacking", "d")),
        ("brings", "brings b b", ("Twice", "b")),
    )
    ORDER = ("parts", "betters", "spares", "gates", "brings", "tops")
    SMALL = {"parts": ["part a 1/2", "part b 1/3"], "gates": ["gate g any a b"], "tops": ["top g"]}

    def rows_with(self, *wrong):
        """Tell the rows of the small text by their sorts, with these ones behind those of their sorts."""
        rows = {sort: list(self.SMALL.get(sort, ())) for sort in self.ORDER}
        for sort, row, _ in wrong:
            rows[sort].append(row)
        return rows

    def told(self, wrong, rows):
        """Tell how a row is refused, where it is the first one that is wrong."""
        text = works_text(**rows)
        at = text.split("\n").index(wrong[1])
        return (wrong[2][0], at, *wrong[2][1:])

    def test_each_alone(self):
        for wrong in self.WRONG:
            rows = self.rows_with(wrong)
            with self.subTest(row=wrong[1]):
                self.assertEqual(refused(**rows), self.told(wrong, rows))

    def test_two_rows_in_both_orders(self):
        for one in self.WRONG:
            for other in self.WRONG:
                if one is not other:
                    rows = self.rows_with(one, other)
                    first = min(one, other, key=lambda wrong: works_text(**rows).split("\n").index(wrong[1]))
                    with self.subTest(one=one[1], other=other[1]):
                        self.assertEqual(refused(**rows), self.told(first, rows))

    def test_the_top_behind_all_others(self):
        for wrong in self.WRONG:
            rows = self.rows_with(wrong)
            rows["tops"] = ["top nothing"]
            with self.subTest(row=wrong[1]):
                self.assertEqual(refused(**rows), self.told(wrong, rows))


class Works(unittest.TestCase):
    FULL_WORKS = (
        (("pump", 1, 20), ("belt", 2, 40), ("line", 0, 7)),
        (("pump", 1, 50, 300), ("belt", 0, 1, 0), ("pump", 1000, 1000, 1000000)),
        (("line", 25, 3), ("belt", 0, 1)),
        (
            ("drive", 1, ("pump", "belt")), ("feed", 3, ("line", "drive", "pump")), ("whole", 2, ("feed", "drive")),
            ("one", 1, ("belt",)), ("only", 1, ("line",)),
        ),
        (("belt", "pump"), ("pump", "belt"), ("belt", "line")),
        "drive",
    )

    def kinds(self, thing):
        """Tell the kind of a thing, and of all within a tuple."""
        if isinstance(thing, tuple):
            return (type(thing), *[self.kinds(inner) for inner in thing])
        return type(thing)

    def test_all_sorts(self):
        works = read(FULL)
        self.assertEqual(works, self.FULL_WORKS)
        self.assertEqual(self.kinds(works), self.kinds(self.FULL_WORKS))

    def test_the_least_works(self):
        wanted = ((("a", 1, 2),), (), (), (("g", 1, ("a",)),), (), "a")
        self.assertEqual(read("part a 1/2\ngate g any a\ntop a"), wanted)

    def test_odds_as_written(self):
        parts = read(works_text(parts=["part a 2/4", "part b 0/9", "part c 1000/1000", "part d 5/5"]))[0]
        self.assertEqual(parts, (("a", 2, 4), ("b", 0, 9), ("c", 1000, 1000), ("d", 5, 5)))

    def test_any_and_all_as_numbers(self):
        for many in range(1, 9):
            names = tuple(f"p{i}" for i in range(many))
            for word, least in (("any", 1), ("all", many), ("1", 1), (str(many), many)):
                with self.subTest(many=many, word=word):
                    works = read(works_text(parts=many_parts(8), gates=[f"gate g {word} {' '.join(names)}"]))
                    self.assertEqual(works[3], (("g", least, names),))

    def test_names_of_one_sign_and_of_eight(self):
        works = read("part a2345678 1/2\npart z 0/1\ngate abcdefgh all z a2345678\ntop abcdefgh")
        self.assertEqual(works[3:], ((("abcdefgh", 2, ("z", "a2345678")),), (), "abcdefgh"))

    def test_blanks_and_remarks_change_nothing(self):
        plain = "\n".join(row.partition("#")[0] for row in FULL.split("\n"))
        for text in (
            plain, "\n".join(row for row in plain.split("\n") if row.strip()), plain.replace(" ", "   "),
            "\n".join("  " + row + "  " for row in plain.split("\n")), plain.replace("\n", " # top a\n"),
            plain.replace("\n", "#\n"), plain.replace("\n", "\n\n# part a 1/2\n"), "\n" + plain, plain + "\n \n",
        ):
            with self.subTest(text=text):
                self.assertEqual(read(text), self.FULL_WORKS)

    def test_the_same_text_again(self):
        first = read(FULL)
        other = read(works_text())
        self.assertEqual(read(FULL), first)
        self.assertEqual(first, self.FULL_WORKS)
        self.assertEqual(read(works_text()), other)

    def test_a_refusal_changes_nothing(self):
        first = read(FULL)
        refused(parts=["part pump 1/3", "part pump 1/3"])
        refusal(read, None)
        self.assertEqual(first, self.FULL_WORKS)
        self.assertEqual(read(FULL), first)


if __name__ == "__main__":
    unittest.main()
