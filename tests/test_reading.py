import unittest

from faultwood import reading
from faultwood.reading import read
from things import many_parts, no_texts, own_names, printable, refusal, works_text

# A row of each sort that may stand, with a part a and a part b ahead.
GOOD = {
    "parts": "part c 1/4", "betters": "better a 1/5 20", "spares": "spare b 7 2", "gates": "gate h 2 a b g",
    "brings": "brings a b", "tops": "top g",
}
SORTS = ("parts", "betters", "spares", "gates", "brings", "tops")

# Where each of them stands in the rows of whole_rows.
AT = {"parts": 2, "betters": 3, "spares": 4, "gates": 6, "brings": 7, "tops": 8}


def whole_rows():
    """Tell the rows of a text with one row or more of each sort."""
    return [
        "part a 1/2", "part b 1/3", GOOD["parts"], GOOD["betters"], GOOD["spares"], "gate g any a b", GOOD["gates"],
        GOOD["brings"], GOOD["tops"],
    ]


def with_row(sort, row):
    """Tell the text of whole_rows with this row in the place of the last one of a sort."""
    rows = whole_rows()
    rows[AT[sort]] = row
    return "\n".join(rows)


class File(unittest.TestCase):
    def test_it_defines_read(self):
        self.assertIn("read", own_names(reading))


class NoText(unittest.TestCase):
    def test_anything_else(self):
        text = works_text()
        for thing in [*no_texts(), [text], (text,), {text: text}, text.encode(), text.split("\n")]:
            with self.subTest(thing=repr(thing)):
                self.assertEqual(refusal(read, thing), ("BadText", None))

    def test_what_is_handed_in_stays_as_it_was(self):
        rows = works_text().split("\n")
        kept = list(rows)
        self.assertEqual(refusal(read, rows), ("BadText", None))
        self.assertEqual(rows, kept)

    def test_how_many_signs(self):
        text = works_text() + " #"
        self.assertIsNone(refusal(read, text.ljust(8000, "x")))
        self.assertEqual(refusal(read, text.ljust(8001, "x")), ("BadText", None))
        self.assertEqual(refusal(read, "\n" * 399 + "x" * 7601), ("BadText", 399))
        self.assertEqual(refusal(read, " " * 8000), ("BadText", 1))
        self.assertEqual(refusal(read, " " * 8001), ("BadText", None))

    def test_line_ends_are_signs(self):
        text = works_text()
        self.assertIsNone(refusal(read, text + "\n" + "#" * (7999 - len(text))))
        self.assertEqual(refusal(read, text + "\n" + "#" * (8000 - len(text))), ("BadText", None))

    def test_how_many_rows(self):
        text = works_text()
        for blanks in ("\n", " \n", "#\n"):
            ahead = 400 - len(text.split("\n"))
            with self.subTest(blanks=blanks):
                self.assertIsNone(refusal(read, blanks * ahead + text))
                self.assertEqual(refusal(read, blanks * (ahead + 1) + text), ("BadText", None))
                self.assertEqual(refusal(read, blanks * 399), ("BadText", 400))
                self.assertEqual(refusal(read, blanks * 400), ("BadText", None))

    def test_a_line_end_behind_the_last_row_begins_another_one(self):
        text = works_text()
        behind = 400 - len(text.split("\n"))
        self.assertIsNone(refusal(read, text + "\n" * behind))
        self.assertEqual(refusal(read, text + "\n" * (behind + 1)), ("BadText", None))

    def test_too_many_is_told_ahead_of_rows_that_are_none(self):
        self.assertEqual(refusal(read, "none\n" * 400), ("BadText", None))
        self.assertEqual(refusal(read, "x" * 8001), ("BadText", None))


class NoRow(unittest.TestCase):
    def assert_no_row(self, sort, row):
        with self.subTest(row=row):
            self.assertEqual(refusal(read, with_row(sort, row)), ("BadText", AT[sort]))

    def test_the_rows_that_the_others_are_made_of_are_read(self):
        self.assertIsNone(refusal(read, "\n".join(whole_rows())))

    def test_a_word_too_few(self):
        for sort in SORTS:
            words = GOOD[sort].split(" ")
            for many in range(1, len(words)):
                if sort != "gates" or many < 4:
                    self.assert_no_row(sort, " ".join(words[:many]))

    def test_a_word_too_many(self):
        for sort in SORTS:
            if sort != "gates":
                for word in ("c", "1", "1/2", "any"):
                    self.assert_no_row(sort, GOOD[sort] + " " + word)

    def test_a_word_in_another_place(self):
        for sort in SORTS:
            words = GOOD[sort].split(" ")
            for at in range(len(words) - 1):
                # Two names, or two numbers, side by side are of one form.
                if {words[at], words[at + 1]} not in ({"a", "b"}, {"b", "g"}, {"7", "2"}):
                    turned = [*words[:at], words[at + 1], words[at], *words[at + 2:]]
                    self.assert_no_row(sort, " ".join(turned))

    def test_first_words_that_are_none(self):
        for sort in SORTS:
            first, behind = GOOD[sort].split(" ", 1)
            for word in (first + "s", first[:-1], first.upper(), first.title(), "a", "1", "1/2", "_", "least", "any"):
                self.assert_no_row(sort, word + " " + behind)
            self.assert_no_row(sort, behind)

    def test_the_first_words_of_other_sorts(self):
        for row in ("part a b", "better a 1/5", "spare a 1/5", "gate a 1/5", "brings a 1/5", "top a 1/5"):
            self.assert_no_row("parts", row)
        for row in ("part a", "better a", "spare a", "gate a", "brings a"):
            self.assert_no_row("tops", row)

    def test_names_that_are_none(self):
        rows = (
            ("parts", "part {} 1/4"), ("betters", "better {} 1/5 20"), ("spares", "spare {} 7 2"),
            ("gates", "gate {} 2 a b g"), ("gates", "gate h 2 {} b g"), ("gates", "gate h 2 a {} g"),
            ("gates", "gate h 2 a b {}"), ("gates", "gate h 1 {}"), ("brings", "brings {} b"),
            ("brings", "brings a {}"), ("tops", "top {}"),
        )
        words = (
            "part", "better", "spare", "gate", "brings", "top", "all", "any", "A", "aB", "1", "1a", "a_b", "a/b",
            "abcdefghi", "-", "a.",
        )
        for sort, row in rows:
            for word in words:
                self.assert_no_row(sort, row.format(word))

    def test_numbers_that_are_none(self):
        rows = (
            ("betters", "better a 1/5 {}"), ("spares", "spare b {} 2"), ("spares", "spare b 7 {}"),
            ("gates", "gate h {} a b"),
        )
        words = ("-1", "+1", "01", "00", "12345678", "00000000", "1.0", "1/2", "a", "none", "one", "ALL", "Any", "1_0")
        for sort, row in rows:
            for word in words:
                self.assert_no_row(sort, row.format(word))

    def test_any_and_all_are_no_numbers_but_of_gates(self):
        for word in ("any", "all"):
            for sort, row in (
                ("betters", "better a 1/5 {}"), ("spares", "spare b {} 2"), ("spares", "spare b 7 {}"),
            ):
                self.assert_no_row(sort, row.format(word))

    def test_odds_that_are_none(self):
        words = (
            "1", "0", "/", "1/", "/2", "1/2/3", "1//2", "-1/2", "1/-2", "01/2", "1/02", "a/b", "1:2", "any", "0.5",
            "12345678/2", "1/12345678",
        )
        for sort, row in (("parts", "part c {}"), ("betters", "better a {} 20")):
            for word in words:
                self.assert_no_row(sort, row.format(word))

    def test_odds_with_blanks_within(self):
        for word in ("1 / 2", "1 /2", "1/ 2"):
            self.assert_no_row("parts", f"part c {word}")
            self.assert_no_row("betters", f"better a {word} 20")

    def test_each_sign_that_is_part_of_no_row(self):
        for sign in printable():
            if sign not in " #\n":
                self.assert_no_row("parts", "part c 1/4 " + sign)
                self.assert_no_row("brings", sign + " a b")

    def test_other_white_space_parts_no_words(self):
        self.assert_no_row("parts", "part\tc\t1/4")
        self.assert_no_row("tops", "top g\r")

    def test_children_of_a_gate(self):
        parts = many_parts(12)
        names = [f"p{i}" for i in range(12)]
        for many in range(13):
            row = " ".join(["gate g any", *names[:many]])
            wanted = None if 1 <= many <= 8 else ("BadText", 12)
            with self.subTest(many=many):
                self.assertEqual(refusal(read, works_text(parts=parts, gates=[row])), wanted)

    def test_the_first_of_them_is_told(self):
        rows = whole_rows()
        for first in range(len(rows)):
            for second in range(first, len(rows)):
                wrong = list(rows)
                wrong[first] = "none"
                wrong[second] = "part 1 1"
                with self.subTest(first=first, second=second):
                    self.assertEqual(refusal(read, "\n".join(wrong)), ("BadText", first))

    def test_rows_of_blanks_and_remarks_count(self):
        for ahead in ("\n", "   \n", "# part\n", "\n\n # \n"):
            with self.subTest(ahead=ahead):
                at = ahead.count("\n")
                self.assertEqual(refusal(read, ahead + "none"), ("BadText", at))
                rows = whole_rows()
                rows[4] = ahead + "spare b 7"
                self.assertEqual(refusal(read, "\n".join(rows)), ("BadText", 4 + at))


class OrderAndMany(unittest.TestCase):
    def test_a_row_behind_one_of_a_later_sort(self):
        rows = ["part c 1/4", "better a 1/5 20", "spare b 7 2", "gate h 2 a b", "brings a b", "top g"]
        for late in range(6):
            for early in range(late):
                ahead = ["part a 1/2", "part b 1/3"]
                with self.subTest(late=rows[late], early=rows[early]):
                    text = "\n".join([*ahead, rows[late], rows[early], *rows])
                    self.assertEqual(refusal(read, text), ("BadText", 3))

    def test_a_row_behind_the_top(self):
        for row in ("part c 1/4", "better a 1/5 20", "spare b 7 2", "gate h 2 a b", "brings a b", "top g"):
            with self.subTest(row=row):
                self.assertEqual(refusal(read, works_text(tops=["top g", row])), ("BadText", 4))
        self.assertEqual(refusal(read, works_text(tops=["top g", "", "# top g", "top a"])), ("BadText", 6))

    def test_how_many_parts(self):
        self.assertIsNone(refusal(read, works_text(parts=many_parts(12), gates=["gate g any p0"])))
        text = works_text(parts=many_parts(13), gates=["gate g any p0"])
        self.assertEqual(refusal(read, text), ("BadText", 12))

    def test_how_many_betters(self):
        for many, wanted in ((24, None), (25, ("BadText", 26))):
            rows = [f"better a 1/{i + 3} {i}" for i in range(many)]
            self.assertEqual(refusal(read, works_text(betters=rows)), wanted)

    def test_how_many_spares(self):
        parts = many_parts(12)
        gates = ["gate g any p0"]
        rows = [f"spare p{i} 5 1" for i in range(12)]
        self.assertIsNone(refusal(read, works_text(parts=parts, spares=rows, gates=gates)))
        text = works_text(parts=parts, spares=[*rows, "spare p0 5 1"], gates=gates)
        self.assertEqual(refusal(read, text), ("BadText", 24))

    def test_how_many_gates(self):
        rows = [f"gate g{i} any a" for i in range(21)]
        self.assertIsNone(refusal(read, works_text(gates=rows[:20], tops=["top g0"])))
        self.assertEqual(refusal(read, works_text(gates=rows, tops=["top g0"])), ("BadText", 22))

    def test_how_many_brings(self):
        pairs = [(one, other) for one in range(5) for other in range(5) if one != other]
        rows = [f"brings p{one} p{other}" for one, other in pairs]
        parts = many_parts(6)
        gates = ["gate g any p0"]
        self.assertEqual(len(rows), 20)
        self.assertIsNone(refusal(read, works_text(parts=parts, gates=gates, brings=rows)))
        text = works_text(parts=parts, gates=gates, brings=[*rows, "brings p0 p5"])
        self.assertEqual(refusal(read, text), ("BadText", 27))

    def test_the_most_rows_of_all_sorts(self):
        parts = many_parts(12)
        betters = [f"better p{i // 2} 1/{i + 20} {i}" for i in range(24)]
        spares = [f"spare p{i} {i} 3" for i in range(12)]
        gates = [f"gate g{i} any p{i % 12}" for i in range(20)]
        brings = [f"brings p{i % 12} p{(i + 1 + i // 12) % 12}" for i in range(20)]
        works = read(works_text(parts, betters, spares, gates, brings, ["top g7"]))
        self.assertEqual([len(rows) for rows in works[:5]], [12, 24, 12, 20, 20])

    def test_sorts_that_are_lacking(self):
        for lacking in ("parts", "gates", "tops"):
            text = works_text(**{lacking: ()})
            with self.subTest(lacking=lacking):
                self.assertEqual(refusal(read, text), ("BadText", len(text.split("\n"))))
                self.assertEqual(refusal(read, text + "\n\n# none"), ("BadText", len(text.split("\n")) + 2))

    def test_sorts_that_may_be_lacking(self):
        for lacking in ("betters", "spares", "brings"):
            rows = {sort: [GOOD[sort]] for sort in ("betters", "spares", "brings") if sort != lacking}
            with self.subTest(lacking=lacking):
                self.assertIsNone(refusal(read, works_text(**rows)))

    def test_nothing_but_blanks_and_remarks(self):
        for text, many in (("", 1), (" ", 1), ("#", 1), ("\n", 2), ("# part\n\n   \n#", 4), ("\n" * 9, 10)):
            with self.subTest(text=text):
                self.assertEqual(refusal(read, text), ("BadText", many))

    def test_lacking_is_told_at_the_end_alone(self):
        self.assertEqual(refusal(read, "top g\nnone"), ("BadText", 1))
        self.assertEqual(refusal(read, "top g\npart a 1/2"), ("BadText", 1))
        self.assertEqual(refusal(read, "part a 1/2\ntop g\ntop g"), ("BadText", 2))
        self.assertEqual(refusal(read, "part a 1/2\ntop g\n"), ("BadText", 3))

    def test_a_row_that_is_none_is_told_ahead_of_all_that_does_not_fit(self):
        for row in ("part a 1/4", "part c 2/1", "part c 0/0"):
            for wrong in ("none", "part d", "gate"):
                with self.subTest(row=row, wrong=wrong):
                    self.assertEqual(refusal(read, with_row("parts", row + "\n" + wrong)), ("BadText", 3))
        rows = whole_rows()
        rows[0] = "part a 5/1"
        self.assertEqual(refusal(read, "\n".join([*rows, "top g"])), ("BadText", 9))
        self.assertEqual(refusal(read, "\n".join(rows[:-1])), ("BadText", 8))
        self.assertEqual(refusal(read, "\n".join(rows)), ("BadNumber", 0))


if __name__ == "__main__":
    unittest.main()
