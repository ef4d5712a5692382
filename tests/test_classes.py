import unittest

from helpers import GrowsCase, all_rows, permuting, random_saying, rows_in, seeded
from stillgrows.classes import Classes
from stillgrows.errors import UnknownSign
from stillgrows.making import turned_saying
from stillgrows.meanings import saying_of_text
from stillgrows.sayings import Saying


def plain_map(saying, row):
    return tuple(saying.state_after(row, state) for state in range(saying.size))


def plain_classes(saying, longest):
    """The maps and the first rows of the classes that rows up to a length show."""
    found = {}
    for row in all_rows(saying.signs, longest):
        found.setdefault(plain_map(saying, row), row)
    return found


def some_sayings(seed):
    rng = seeded(seed)
    found = [Saying.void("ab"), Saying.full("ab"), Saying.single("ab", "ba"), Saying.read("ab: 1 0 -, 1 1 +")]
    return found + [random_saying(rng, "ab", rng.randint(2, 4)) for _ in range(30)]


class TestClasses(GrowsCase):
    def test_numbers_words_and_maps(self):
        for saying in some_sayings(80):
            classes = Classes(saying)
            found = plain_classes(saying, max(len(word) for word in classes.words) + 1)
            self.same(classes.words, tuple(found.values()))
            self.assertEqual(list(classes), list(found))
            self.same(len(classes), len(found))
            self.assertEqual([classes[number] for number in range(len(classes))], list(classes))
            self.assertIs(type(classes[0]), tuple)
            self.assertEqual(classes.signs, "ab")

    def test_words_are_in_row_order(self):
        for saying in some_sayings(81):
            words = list(Classes(saying).words)
            self.assertEqual(words, sorted(words, key=lambda word: (len(word), word)))
            self.assertEqual(words[0], "")

    def test_class_of(self):
        for saying in some_sayings(82):
            classes = Classes(saying)
            for row in all_rows("ab", 6):
                self.same(classes.class_of(row), list(classes).index(plain_map(saying, row)))
            for number, word in enumerate(classes.words):
                self.assertEqual(classes.class_of(word), number)

    def test_rows_of_one_class_can_stand_for_each_other(self):
        saying = saying_of_text("(ab)*|b", "ab")
        classes = Classes(saying)
        rows = all_rows("ab", 3)
        for x in rows:
            for y in rows:
                alike = all((u + x + v in saying) == (u + y + v in saying) for u in rows for v in rows)
                self.assertEqual(classes.class_of(x) == classes.class_of(y), alike)

    def test_product(self):
        for saying in some_sayings(83):
            classes = Classes(saying)
            self.same(classes.product(), 0)
            rng = seeded(84)
            for many in (1, 2, 3, 5):
                numbers = [rng.randrange(len(classes)) for _ in range(many)]
                row = "".join(classes.words[number] for number in numbers)
                self.same(classes.product(*numbers), classes.class_of(row))
            for number in range(len(classes)):
                self.assertEqual(classes.product(number), number)

    def test_rows_of(self):
        for saying in some_sayings(85)[:15]:
            classes = Classes(saying)
            parts = [classes.rows_of(number) for number in range(len(classes))]
            self.assertTrue(all(part.signs == "ab" for part in parts))
            for row in all_rows("ab", 5):
                self.assertEqual([row in part for part in parts].index(True), classes.class_of(row))
                self.assertEqual(sum(row in part for part in parts), 1)
        full = Classes(Saying.full("ab"))
        self.assertEqual((len(full), full.words, full[0]), (1, ("",), (0,)))
        self.assertEqual(full.rows_of(0), Saying.full("ab"))

    def test_as_many_classes_as_from_the_end(self):
        for saying in some_sayings(86):
            self.assertEqual(len(Classes(saying)), len(Classes(turned_saying(saying))))

    def test_256_classes(self):
        # A circle, an exchange and a sign that joins two states make all maps of four states.
        table = [[1, 1, 0, 0], [2, 0, 0, 1], [3, 2, 2, 2], [0, 3, 3, 3]]
        saying = Saying("abcd", table, [False, False, False, True])
        classes = Classes(saying)
        self.assertEqual((saying.size, len(classes), len(set(classes))), (4, 256, 256))
        self.assertEqual(rows_in(classes.rows_of(0), 2), [row for row in all_rows("abcd", 2)
                                                         if plain_map(saying, row) == (0, 1, 2, 3)])

    def test_16_states_and_long_rows(self):
        ring = Saying("ab", [[(state + 1) % 16, state] for state in range(16)], [state == 3 for state in range(16)])
        classes = Classes(ring)
        self.assertEqual(len(classes), 16)
        self.assertEqual(classes.class_of("a" * 150 + "b" * 50), 150 % 16)
        self.assertEqual(classes.product(15, 15, 3), 1)
        self.assertEqual(permuting(seeded(87), "a", 16).size, 16)

    def test_unknown_signs(self):
        classes = Classes(Saying.full("ab"))
        self.refuses(UnknownSign, "d", classes.class_of, "abdca")
        self.refuses(UnknownSign, "A", classes.class_of, "A")


if __name__ == "__main__":
    unittest.main()
