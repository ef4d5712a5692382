import inspect
import operator
import unittest

from helpers import GrowsCase, all_rows, random_saying, random_table, read_by, rows_in, seeded
from stillgrows.errors import DifferentSigns, InvalidSigns, InvalidTable, InvalidText, UnknownSign
from stillgrows.growths import Growth
from stillgrows.lots import Lot
from stillgrows.sayings import Saying

HAS_A = "ab: 1 0 -, 1 1 +"


def has_a():
    return Saying("ab", [[1, 0], [1, 1]], [False, True])


class TestMaking(GrowsCase):
    def test_fields(self):
        saying = has_a()
        self.same(saying.signs, "ab")
        self.same(saying.table, ((1, 0), (1, 1)))
        self.same(saying.marks, (False, True))
        self.assertTrue(all(isinstance(entry, tuple) for entry in saying.table))
        self.assertTrue(all(mark is True or mark is False for mark in saying.marks))

    def test_lists_and_tuples(self):
        self.assertEqual(Saying("ab", ((1, 0), (1, 1)), (False, True)), has_a())
        self.assertEqual(Saying("ab", [(1, 0), [1, 1]], (False, True)), has_a())

    def test_states_that_no_row_reaches_are_left_out(self):
        saying = Saying("ab", [[3, 0], [2, 1], [0, 3], [3, 3]], [False, True, False, True])
        self.assertEqual(saying, has_a())

    def test_states_are_merged(self):
        saying = Saying("ab", [[1, 2], [3, 1], [4, 0], [1, 3], [3, 4]], [False, True, False, True, True])
        self.assertEqual((saying.table, saying.marks), (((1, 0), (1, 1)), (False, True)))
        self.assertEqual(Saying("a", [[1], [2], [0]], [True, True, True]), Saying.full("a"))

    def test_states_are_numbered_breadth_first(self):
        saying = Saying("ab", [[4, 3], [1, 1], [1, 2], [2, 0], [2, 3]], [False, True, False, False, True])
        self.assertEqual(saying.text(), "ab: 1 2 -, 3 2 +, 3 0 -, 4 3 -, 4 4 +")

    def test_the_same_rows_have_the_same_table(self):
        rng = seeded(5)
        for _ in range(60):
            size = rng.randint(1, 7)
            table, marks = random_table(rng, "ab", size)
            names = list(range(1, size))
            rng.shuffle(names)
            names = [0] + names + [size]
            # The same table, its states in another order and one of them twice.
            other = [None] * (size + 1)
            other_marks = [None] * (size + 1)
            twin = rng.randrange(size)
            for state in range(size):
                other[names[state]] = [names[to] for to in table[state]]
                other_marks[names[state]] = marks[state]
            other[size] = list(other[names[twin]])
            other_marks[size] = marks[twin]
            for entry in other:
                for column in range(2):
                    if entry[column] == names[twin] and rng.random() < 0.5:
                        entry[column] = size
            first = Saying("ab", table, marks)
            second = Saying("ab", other, other_marks)
            self.assertEqual((first.table, first.marks), (second.table, second.marks))
            self.assertTrue(first == second)

    def test_a_table_of_60_states(self):
        table = [[(state + 1) % 60, state] for state in range(60)]
        saying = Saying("xz", table, [state == 59 for state in range(60)])
        self.assertEqual(saying.size, 60)
        self.assertIn("x" * 59 + "z" * 100, saying)
        self.assertNotIn("x" * 60, saying)

    def test_invalid_signs_come_first(self):
        for signs in ("", "ba", "aa", "abcde", "A", "a "):
            self.refuses(InvalidSigns, signs, Saying, signs, [[9]], [])
            self.refuses(InvalidSigns, signs, Saying, signs, [[0, 0]], [True])

    def test_the_first_bad_state(self):
        for table, state in (
            ([[0, 1], [1]], 1), ([[0], [1]], 0), ([[0, 1], [1, 1, 1]], 1), ([[0, 2], [0, 0]], 0),
            ([[0, 1], [-1, 0], [9, 9]], 1), ([[0, 0], [0, 0], [0, 3]], 2), ([[]], 0), ([[0, 1]], 0),
        ):
            self.refuses(InvalidTable, state, Saying, "ab", table, [True] * len(table))
            # A bad state comes before a wrong number of marks.
            self.refuses(InvalidTable, state, Saying, "ab", table, [True] * 7)

    def test_no_states_and_wrong_marks(self):
        self.refuses(InvalidTable, 0, Saying, "ab", [], [])
        self.refuses(InvalidTable, 0, Saying, "ab", (), (True,))
        self.refuses(InvalidTable, 2, Saying, "ab", [[0, 1], [1, 1]], [True])
        self.refuses(InvalidTable, 2, Saying, "ab", [[0, 1], [1, 1]], [True, True, False])

    def test_lists_are_copied(self):
        table = [[1, 0], [1, 1]]
        marks = [False, True]
        saying = Saying("ab", table, marks)
        self.assertEqual((table, marks), ([[1, 0], [1, 1]], [False, True]))
        table[0][0] = 0
        table.append([0, 0])
        marks[0] = True
        self.assertEqual(saying.text(), HAS_A)


class TestClassMethods(GrowsCase):
    def test_full_and_void(self):
        for signs in ("a", "bz", "abcd"):
            full = Saying.full(signs)
            self.assertEqual((full.signs, full.table, full.marks), (signs, ((0,) * len(signs),), (True,)))
            void = Saying.void(signs)
            self.assertEqual((void.signs, void.table, void.marks), (signs, ((0,) * len(signs),), (False,)))
        for signs in ("", "ba", "abcde"):
            self.refuses(InvalidSigns, signs, Saying.full, signs)
            self.refuses(InvalidSigns, signs, Saying.void, signs)

    def test_single(self):
        for row in ("", "a", "ab", "bba", "abab"):
            self.assertEqual(rows_in(Saying.single("ab", row), 5), [row])
        self.assertEqual(Saying.single("ab", "").text(), "ab: 1 1 +, 1 1 -")
        longest = "ab" * 25
        self.assertEqual(Saying.single("ab", longest).size, 52)
        self.assertIn(longest, Saying.single("ab", longest))
        self.assertNotIn(longest[:-1], Saying.single("ab", longest))

    def test_single_refuses(self):
        self.refuses(InvalidSigns, "ba", Saying.single, "ba", "xyz")
        self.refuses(UnknownSign, "d", Saying.single, "abc", "cdae")

    def test_class_methods_are_defined_in_the_class(self):
        for name in ("full", "void", "single", "read"):
            self.assertIsInstance(vars(Saying)[name], classmethod)
        for name in ("size", "is_void"):
            self.assertIsInstance(vars(Saying)[name], property)


class TestReading(GrowsCase):
    def test_step(self):
        saying = has_a()
        self.assertEqual([saying.step(0, "a"), saying.step(0, "b"), saying.step(1, "b")], [1, 0, 1])
        self.refuses(UnknownSign, "c", saying.step, 0, "c")
        self.refuses(UnknownSign, " ", saying.step, 1, " ")

    def test_state_after(self):
        saying = Saying.single("ab", "ab")
        self.assertEqual(saying.state_after(""), 0)
        self.assertEqual(saying.state_after("", 3), 3)
        self.assertEqual(saying.state_after("ab"), saying.state_after("b", saying.state_after("a")))
        self.assertEqual(saying.state_after("b", state=1), saying.state_after("ab"))
        self.refuses(UnknownSign, "x", saying.state_after, "axy")
        self.refuses(UnknownSign, "c", saying.state_after, "c", 1)

    def test_contains(self):
        rng = seeded(6)
        for signs in ("a", "ab", "abcd"):
            table, marks = random_table(rng, signs, 5)
            saying = Saying(signs, table, marks)
            for row in all_rows(signs, 4):
                self.same(row in saying, read_by(table, marks, signs, row))
        self.refuses(UnknownSign, "z", operator.contains, has_a(), "azy")

    def test_the_empty_row(self):
        self.assertTrue("" in Saying.full("a"))
        self.assertFalse("" in Saying.void("a"))
        self.assertFalse("" in has_a())

    def test_size_and_is_void(self):
        self.assertEqual([Saying.full("ab").size, has_a().size], [1, 2])
        self.same(Saying.void("ab").is_void, True)
        self.same(has_a().is_void, False)
        self.same(Saying("a", [[0], [1]], [False, True]).is_void, True)


class TestOperators(GrowsCase):
    def test_two_sayings_against_their_rows(self):
        rng = seeded(7)
        for _ in range(40):
            signs = rng.choice(["a", "ab", "abd"])
            first = random_saying(rng, signs, rng.randint(1, 3))
            second = random_saying(rng, signs, rng.randint(1, 3))
            # There are at most 9 pairs of states, so these rows part any two of the sayings.
            rows = all_rows(signs, 8)
            one = {row for row in rows if row in first}
            two = {row for row in rows if row in second}
            for found, wanted in (
                (first & second, one & two), (first | second, one | two), (first - second, one - two),
                (first ^ second, one ^ two), (~first, set(rows) - one),
            ):
                self.assertEqual({row for row in rows if row in found}, wanted)
                self.assertEqual(found, Saying(signs, found.table, found.marks))
            self.same(first <= second, one <= two)
            self.same(first == second, one == two)

    def test_operators_give_canonical_sayings(self):
        ends_b = Saying.read("ab: 0 1 -, 0 1 +")
        self.assertEqual((has_a() & ends_b).text(), "ab: 1 0 -, 1 2 -, 1 2 +")
        self.assertEqual((has_a() | ~has_a()), Saying.full("ab"))
        self.assertEqual(has_a() - has_a(), Saying.void("ab"))
        self.assertEqual(has_a() ^ has_a(), Saying.void("ab"))
        self.assertEqual((~has_a()).text(), "ab: 1 0 +, 1 1 -")
        self.assertTrue(all(mark is True or mark is False for mark in (has_a() ^ ends_b).marks))

    def test_subsets(self):
        self.same(has_a() <= has_a(), True)
        self.same(has_a() <= Saying.full("ab"), True)
        self.same(Saying.full("ab") <= has_a(), False)
        self.same(Saying.void("ab") <= Saying.void("ab"), True)

    def test_different_alphabets(self):
        other = Saying.full("abc")
        for act in (operator.and_, operator.or_, operator.sub, operator.xor, operator.le):
            self.refuses(DifferentSigns, ("ab", "abc"), act, has_a(), other)
            self.refuses(DifferentSigns, ("abc", "ab"), act, other, has_a())

    def test_equality(self):
        self.same(has_a() == Saying.read(HAS_A), True)
        self.same(has_a() == ~has_a(), False)
        self.same(Saying.full("a") == Saying.full("b"), False)
        self.same(Saying.full("a") == Saying.full("ab"), False)
        for other in (HAS_A, None, 0, True, ((1, 0), (1, 1)), Lot.of("a"), Growth("ab")):
            self.same(has_a() == other, False)
            self.same(has_a() != other, True)

    def test_after_a_row(self):
        rng = seeded(8)
        for _ in range(20):
            saying = random_saying(rng, "ab", 4)
            for row in ("", "a", "ba", "abba"):
                rest = saying // row
                for behind in all_rows("ab", 5):
                    self.assertEqual(behind in rest, row + behind in saying)
                self.assertEqual(rest, Saying("ab", rest.table, rest.marks))
        self.assertEqual(has_a() // "", has_a())
        self.assertEqual(has_a() // "ba", Saying.full("ab"))
        self.refuses(UnknownSign, "d", operator.floordiv, has_a(), "adc")

    def test_great_sayings(self):
        first = Saying("a", [[(k + 1) % 59] for k in range(59)], [k == 0 for k in range(59)])
        second = Saying("a", [[(k + 1) % 60] for k in range(60)], [k == 0 for k in range(60)])
        both = first & second
        self.assertEqual(both.size, 59 * 60)
        self.assertTrue(both <= first)
        self.assertFalse(first <= both)
        self.assertEqual(both & second, both)
        self.assertIn("", both)

    def test_nothing_is_changed(self):
        first = has_a()
        second = Saying.read("ab: 0 1 -, 0 1 +")
        for act in (operator.and_, operator.or_, operator.sub, operator.xor, operator.le, operator.eq):
            self.assertEqual(act(first, second), act(first, second))
        self.assertEqual([first.text(), second.text()], [HAS_A, "ab: 0 1 -, 0 1 +"])

    def test_operators_are_defined_in_the_class(self):
        for name in ("and or sub xor invert le eq contains floordiv").split():
            self.assertTrue(inspect.isfunction(vars(Saying)[f"__{name}__"]))


class TestRenaming(GrowsCase):
    def test_renamed_rows(self):
        rng = seeded(9)
        for old, new, signs in (("ab", "ba", "ab"), ("a", "c", "bc"), ("ab", "xd", "dx"), ("", "", "ab"),
                                ("z", "a", "ab"), ("zb", "bx", "ax")):
            saying = random_saying(rng, "ab", 4)
            found = saying.renamed(old, new)
            self.assertEqual(found.signs, signs)
            table = dict(zip(old, new))
            for row in all_rows("ab", 6):
                self.assertEqual("".join(table.get(sign, sign) for sign in row) in found, row in saying)
            self.assertEqual(found, Saying(signs, found.table, found.marks))

    def test_signs_in_another_order_are_numbered_anew(self):
        saying = Saying.read("ab: 1 2 -, 1 1 +, 2 2 -")
        self.assertEqual(saying.renamed("ab", "ba").text(), "ab: 1 2 -, 1 1 -, 2 2 +")

    def test_one_name_for_two_signs(self):
        self.refuses(InvalidSigns, "bb", has_a().renamed, "a", "b")
        self.refuses(InvalidSigns, "aab", Saying.full("abc").renamed, "c", "a")
        self.refuses(InvalidSigns, "acc", Saying.full("abc").renamed, "ba", "ac")


class TestTexts(GrowsCase):
    def test_the_example(self):
        saying = Saying.read("ab: 1 0 -, 1 1 +")
        self.assertEqual(saying, has_a())
        self.assertEqual(saying.text(), "ab: 1 0 -, 1 1 +")
        self.assertEqual(rows_in(saying, 2), ["a", "aa", "ab", "ba"])

    def test_texts(self):
        self.assertEqual(Saying.full("a").text(), "a: 0 +")
        self.assertEqual(Saying.void("abcd").text(), "abcd: 0 0 0 0 -")
        ring = Saying("az", [[(k + 1) % 12, k] for k in range(12)], [k == 11 for k in range(12)])
        self.assertTrue(ring.text().endswith("10 9 -, 11 10 -, 0 11 +"))

    def test_each_saying_is_read_back(self):
        rng = seeded(10)
        for signs in ("a", "ab", "acx", "abcd"):
            for size in range(1, 13):
                saying = random_saying(rng, signs, size)
                self.assertEqual(Saying.read(saying.text()), saying)

    def test_texts_that_are_not_canonical_are_read(self):
        self.assertEqual(Saying.read("ab: 2 0 -, 0 0 +, 2 2 +").text(), HAS_A)
        self.assertEqual(Saying.read("ab: 0 0 +, 1 1 -").text(), "ab: 0 0 +")
        self.assertEqual(Saying.read("ab: 1 1 +, 0 1 +"), Saying.full("ab"))

    def test_texts_that_are_refused(self):
        for text in (
            "", "ab", "ab:", "ab: ", ": 0 +", "ab:0 0 +", "ab : 0 0 +", " ab: 0 0 +", "ab: 0 0 + ",
            "ba: 0 0 +", "aa: 0 0 +", "abcde: 0 0 0 0 0 +", "Ab: 0 0 +", "ab: 0 +", "ab: 0 0 0 +",
            "ab: 0 0", "ab: +", "ab: 0 0 *", "ab: 0 0+", "ab: 0  0 +", "ab:  0 0 +", "ab: 0 0  +",
            "ab: 0 1 +", "ab: 0 -1 +", "ab: 0 2 +, 0 0 -", "ab: 00 0 +", "ab: 0 00 +", "ab: 1 01 +, 0 0 -",
            "ab: 0 0 +,0 0 -", "ab: 0 0 +,  0 0 -", "ab: 0 0 +, ", "ab: , 0 0 +", "ab: 0 0 +,", "ab: 0 a +",
            "ab: 0 0 + -", "ab: 0 0 +; 0 0 -", "ab: 1 0 -, 1 1", "ab: 1 0, 1 1 +", "ab: 0 +0 +",
            "ab: 1000000000 0 +", "ab: 0 0000000000 +", "ab: 999999999 0 +", "ab: ab: 0 0 +", "ab: 0 0 ++",
        ):
            self.refuses(InvalidText, text, Saying.read, text)


if __name__ == "__main__":
    unittest.main()
