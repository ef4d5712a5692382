import itertools
import unittest

from helpers import GrowsCase, random_lot, random_saying, seeded
from stillgrows.chains import all_chains, chain_saying, shortened
from stillgrows.errors import UnknownName, UnknownSign
from stillgrows.lots import Lot
from stillgrows.sayings import Saying
from stillgrows.sures import may_saying, sure_saying

HAS_A = Saying.read("ab: 1 0 -, 1 1 +")
CHAINS = [[], ["sure"], ["may"], ["sure", "may"], ["may", "sure"], ["not"], ["not", "sure"], ["not", "may"],
          ["not", "sure", "may"], ["not", "may", "sure"]]
RULES = ((("sure", "not"), ("not", "may")), (("may", "not"), ("not", "sure")), (("sure", "sure"), ("sure",)),
         (("may", "may"), ("may",)), (("not", "not"), ()), (("sure", "may", "sure"), ("may", "sure")),
         (("may", "sure", "may"), ("sure", "may")))


def plainly_shortened(words, rng):
    """Replaces words at places that are drawn, until nothing can be replaced any more."""
    words = tuple(words)
    while True:
        found = [words[:at] + new + words[at + len(old):] for old, new in RULES for at in range(len(words))
                 if words[at:at + len(old)] == old]
        if not found:
            return list(words)
        words = rng.choice(found)


def plainly_made(saying, lot, words):
    for word in list(words)[::-1]:
        if word == "not":
            saying = ~saying
        else:
            saying = sure_saying(saying, lot) if word == "sure" else may_saying(saying, lot)
    return saying


class TestShortened(GrowsCase):
    def test_the_ten_chains(self):
        self.same(all_chains(), CHAINS)
        for words in all_chains():
            self.assertIs(type(words), list)
            self.same(shortened(words), words)
            self.same(shortened(tuple(words)), words)
        all_chains()[1].append("may")
        all_chains().clear()
        self.assertEqual(all_chains(), CHAINS)

    def test_all_chains_of_a_few_words(self):
        rng = seeded(200)
        for many in range(7):
            for words in itertools.product(("sure", "may", "not"), repeat=many):
                self.same(shortened(words), plainly_shortened(words, rng))
                self.assertIn(shortened(words), CHAINS)

    def test_chains_of_12_words(self):
        rng = seeded(201)
        for _ in range(300):
            words = [rng.choice(("sure", "may", "not")) for _ in range(12)]
            self.same(shortened(words), plainly_shortened(words, rng))
        words = ["sure", "not", "not"]
        shortened(words)
        self.assertEqual(words, ["sure", "not", "not"])

    def test_unknown_names(self):
        self.refuses(UnknownName, "Sure", shortened, ["may", "Sure", "x"])
        self.refuses(UnknownName, "", shortened, ("", "may"))
        self.refuses(UnknownName, "never", shortened, ["not"] * 11 + ["never"])


class TestChainSaying(GrowsCase):
    def test_the_ten_chains_make_their_sayings(self):
        rng = seeded(202)
        for _ in range(60):
            saying, lot = random_saying(rng, "ab", rng.randint(1, 5)), random_lot(rng, "ab", rng.randint(0, 3), 3)
            for words in CHAINS:
                self.same(chain_saying(saying, lot, words), plainly_made(saying, lot, words))

    def test_long_chains_make_what_their_shortened_ones_make(self):
        rng = seeded(203)
        for _ in range(60):
            saying, lot = random_saying(rng, "ab", rng.randint(2, 4)), random_lot(rng, "ab", rng.randint(1, 3), 3)
            words = tuple(rng.choice(("sure", "may", "not")) for _ in range(rng.randint(0, 12)))
            found = chain_saying(saying, lot, words)
            self.assertEqual(found, plainly_made(saying, lot, words), words)
            self.assertEqual(found, chain_saying(saying, lot, shortened(words)))

    def test_the_last_word_comes_first(self):
        lot = Lot.of("a")
        self.assertEqual(chain_saying(HAS_A, lot, ["not", "sure"]), ~HAS_A)
        self.assertEqual(chain_saying(HAS_A, lot, ["sure", "not"]), Saying.void("ab"))
        self.assertEqual(chain_saying(HAS_A, lot, []), HAS_A)
        self.assertEqual(chain_saying(HAS_A, lot, ("not",)), ~HAS_A)

    def test_errors_in_their_order(self):
        self.refuses(UnknownName, "yes", chain_saying, HAS_A, Lot.of("c"), ["not", "yes", "no"])
        self.refuses(UnknownSign, "d", chain_saying, HAS_A, Lot.of("a", "bdc"), ["not", "sure"])
        self.refuses(UnknownSign, "c", chain_saying, HAS_A, Lot.of("c"), [])
        self.refuses(UnknownSign, "c", chain_saying, HAS_A, Lot.of("c"), ["not"])

    def test_the_greatest_sizes(self):
        rng = seeded(204)
        saying, lot = random_saying(rng, "abcd", 5), random_lot(rng, "abcd", 8, 6)
        for words in (["sure", "may"] * 6, ["not", "may", "not", "sure"] * 3, ["may"] * 12):
            self.assertEqual(chain_saying(saying, lot, words), chain_saying(saying, lot, shortened(words)))


if __name__ == "__main__":
    unittest.main()
