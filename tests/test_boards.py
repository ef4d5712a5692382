import unittest

from helpers import GrowsCase, all_rows, grown, permuting, random_lot, random_saying, seeded
from stillgrows.boards import Board
from stillgrows.errors import NameTaken, UnknownName, UnknownSign
from stillgrows.lots import Lot
from stillgrows.sayings import Saying
from stillgrows.spreads import plain_spread
from stillgrows.verdicts import verdict

HAS_A = Saying.read("ab: 1 0 -, 1 1 +")
HAS_B = Saying.read("ab: 0 1 -, 1 1 +")


def shown(board):
    return [(name, board[name]) for name in board]


class TestBoard(GrowsCase):
    def test_a_board_without_names(self):
        board = Board(Lot.of("a"))
        self.same(board.lot, Lot.of("a"))
        self.same(len(board), 0)
        self.same(list(board), [])
        self.same("x" in board, False)
        self.same(board.look("zz"), [])
        self.refuses(UnknownName, "x", lambda name: board[name], "x")

    def test_verdicts(self):
        rng = seeded(440)
        kinds = set()
        for _ in range(60):
            lot = random_lot(rng, "ab", rng.randint(0, 3), 3)
            board = Board(lot)
            sayings = {name: random_saying(rng, "ab", rng.randint(1, 5)) for name in ("one", "two", "six")}
            for name, saying in sayings.items():
                self.same(board.watch(name, saying), None)
                self.same(board[name], "open")
            row = rng.choice(all_rows("ab", 3))
            told = {name: verdict(plain_spread(saying, lot), row) for name, saying in sayings.items()}
            self.same(board.look(row), [(name, told[name]) for name in sayings if told[name] != "open"])
            self.same(shown(board), list(told.items()))
            self.same(board.look(row), [])
            # What is open can be settled by a later row, what is settled stays.
            later = rng.choice(grown(row, lot.groups, 6))
            settled = board.look(later)
            self.assertEqual(settled, [(name, verdict(plain_spread(saying, lot), later)) for name, saying in sayings.items()
                                       if told[name] == "open" and verdict(plain_spread(saying, lot), later) != "open"])
            kinds.update(told.values())
            kinds.add(bool(settled))
        self.assertEqual(kinds, {"sure", "never", "open", True, False})

    def test_settled_verdicts_stay(self):
        board = Board(Lot([]))
        board.watch("x", HAS_A)
        self.same(board.look("a"), [("x", "sure")])
        self.same(board.look("b"), [])
        self.same(board["x"], "sure")
        # A settled saying is not judged again, so it may even lack signs of the row.
        self.same(board.look("z"), [])
        self.same(board["x"], "sure")

    def test_names_in_the_order_in_which_they_were_added(self):
        board = Board(Lot.of("b"))
        for name in ("zz", "a", "mmm", "abcdefghijkl"):
            board.watch(name, HAS_A)
        self.same(list(board), ["zz", "a", "mmm", "abcdefghijkl"])
        self.same(len(board), 4)
        self.same("mmm" in board, True)
        self.same("m" in board, False)
        self.same(board.look("ba"), [(name, "sure") for name in ("zz", "a", "mmm", "abcdefghijkl")])
        board.watch("b", ~HAS_A)
        self.same(list(board), ["zz", "a", "mmm", "abcdefghijkl", "b"])
        self.same([board[name] for name in board], ["sure"] * 4 + ["open"])
        self.refuses(UnknownName, "c", board.__getitem__, "c")

    def test_refused_names_and_sayings(self):
        board = Board(Lot.of("a", "bdc"))
        wide = Saying.full("abcd")
        self.refuses(UnknownSign, "d", board.watch, "x", HAS_A)
        self.same(list(board), [])
        board.watch("x", wide)
        self.refuses(NameTaken, "x", board.watch, "x", HAS_A)
        self.refuses(NameTaken, "x", board.watch, "x", wide)
        self.same(shown(board), [("x", "open")])
        board.look("a")
        self.refuses(NameTaken, "x", board.watch, "x", wide)
        self.same(shown(board), [("x", "sure")])

    def test_a_look_that_raises_settles_nothing(self):
        board = Board(Lot.of("b"))
        board.watch("one", Saying.full("abc"))
        board.watch("two", Saying.full("abd"))
        board.watch("six", Saying.full("ab"))
        self.refuses(UnknownSign, "d", board.look, "adc")
        self.refuses(UnknownSign, "c", board.look, "ac")
        self.same(shown(board), [("one", "open"), ("two", "open"), ("six", "open")])
        self.same(board.look("ab"), [("one", "sure"), ("two", "sure"), ("six", "sure")])

    def test_copies(self):
        board = Board(Lot.of("a"))
        board.watch("x", HAS_A)
        other = board.copied()
        other.watch("y", HAS_B)
        other.look("a")
        self.same(shown(board), [("x", "open")])
        self.same(shown(other), [("x", "sure"), ("y", "never")])
        board.look("ab")
        self.same(shown(other), [("x", "sure"), ("y", "never")])

    def test_the_greatest_sizes(self):
        rng = seeded(441)
        row = "".join(rng.choice("abcd") for _ in range(200))
        lot = random_lot(rng, "abcd", 8, 6)
        board = Board(lot)
        sayings = {"p": permuting(rng, "abcd", 40), "r": random_saying(rng, "abcd", 40)}
        for name, saying in sayings.items():
            board.watch(name, saying)
        board.look(row)
        self.same(shown(board), [(name, verdict(plain_spread(saying, lot), row)) for name, saying in sayings.items()])


if __name__ == "__main__":
    unittest.main()
