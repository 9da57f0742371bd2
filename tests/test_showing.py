import unittest

from faultwood import showing
from faultwood.reading import read
from faultwood.showing import shown
from things import many_parts, own_names, works_text

WORKS = (
    (("pump", 1, 20), ("belt", 2, 40), ("line", 0, 7)),
    (("pump", 1, 50, 300), ("belt", 0, 1, 0)),
    (("line", 25, 3), ("belt", 1000000, 1)),
    (("drive", 1, ("pump", "belt")), ("feed", 3, ("line", "drive", "pump")), ("whole", 2, ("feed", "drive", "line"))),
    (("belt", "pump"), ("pump", "belt")),
    "whole",
)
TEXT = """part pump 1/20
part belt 2/40
part line 0/7
better pump 1/50 300
better belt 0/1 0
spare line 25 3
spare belt 1000000 1
gate drive any pump belt
gate feed all line drive pump
gate whole 2 feed drive line
brings belt pump
brings pump belt
top whole"""


class Shown(unittest.TestCase):
    def test_the_file_defines_it(self):
        self.assertIn("shown", own_names(showing))

    def test_all_sorts(self):
        text = shown(WORKS)
        self.assertEqual(text, TEXT)
        self.assertIs(type(text), str)

    def test_no_betters_spares_or_brings(self):
        works = ((("a", 1, 2),), (), (), (("g", 1, ("a",)),), (), "a")
        self.assertEqual(shown(works), "part a 1/2\ngate g any a\ntop a")

    def test_each_of_the_three_alone(self):
        for sort, row in (("betters", "better b 3/4 5"), ("spares", "spare a 0 2"), ("brings", "brings b a")):
            text = works_text(**{sort: [row]})
            with self.subTest(row=row):
                self.assertEqual(shown(read(text)), text)

    def test_any_then_all_then_a_number(self):
        for many in range(1, 9):
            names = tuple(f"p{i}" for i in range(many))
            for least in range(1, many + 1):
                word = "any" if least == 1 else "all" if least == many else str(least)
                works = ((("p0", 1, 2),), (), (), (("g", least, names),), (), "g")
                with self.subTest(many=many, least=least):
                    self.assertEqual(shown(works).split("\n")[1], " ".join(["gate g", word, *names]))

    def test_read_tells_the_works(self):
        self.assertEqual(read(shown(WORKS)), WORKS)

    def test_the_most_works(self):
        betters = [f"better p{i // 2} 1/{i + 20} {i}" for i in range(24)]
        spares = [f"spare p{i} {i} {i % 3 + 1}" for i in range(12)]
        gates = [f"gate g{i} {i % 3 + 1} p{i % 12} p{(i + 1) % 12} p{(i + 5) % 12}" for i in range(20)]
        brings = [f"brings p{i % 12} p{(i + 1 + i // 12) % 12}" for i in range(20)]
        works = read(works_text(many_parts(12), betters, spares, gates, brings, ["top p3"]))
        self.assertEqual(len(shown(works).split("\n")), 89)
        self.assertEqual(read(shown(works)), works)

    def test_one_text_of_works_that_were_written_otherwise(self):
        other = TEXT.replace(" any ", " 1 ").replace(" all ", " 3 ").replace(" ", "  ").replace("\n", " # top\n\n #\n")
        self.assertNotEqual(other, TEXT)
        self.assertEqual(shown(read(other)), TEXT)
        one = works_text(gates=["gate g all a", "gate h 1 a", "gate i any a"])
        self.assertEqual(shown(read(one)), works_text(gates=["gate g any a", "gate h any a", "gate i any a"]))

    def test_the_same_each_time(self):
        self.assertEqual(shown(WORKS), shown(WORKS))
        self.assertEqual(shown(read(TEXT)), TEXT)


if __name__ == "__main__":
    unittest.main()
