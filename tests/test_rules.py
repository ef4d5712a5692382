import unittest

from helpers import GrowsCase
from stillgrows.errors import InvalidRule, InvalidText
from stillgrows.rules import Rule, all_rules

TEXTS = ["after newest whole", "after newest loose", "after oldest whole", "after oldest loose",
         "before newest whole", "before newest loose", "before oldest whole", "before oldest loose"]


class TestRules(GrowsCase):
    def test_fields_and_defaults(self):
        rule = Rule()
        self.assertEqual((rule.side, rule.order, rule.link), ("after", "newest", "whole"))
        rule = Rule("before", "oldest", "loose")
        self.assertEqual((rule.side, rule.order, rule.link), ("before", "oldest", "loose"))
        self.assertEqual(Rule(link="loose").text(), "after newest loose")

    def test_class_values(self):
        self.assertEqual(Rule.SIDES, ("after", "before"))
        self.assertEqual(Rule.ORDERS, ("newest", "oldest"))
        self.assertEqual(Rule.LINKS, ("whole", "loose"))

    def test_invalid_words(self):
        for words in (("", "newest", "whole"), ("after", "new", "whole"), ("after", "newest", "Whole"),
                      ("newest", "after", "whole"), ("after", "after", "after"), ("x", "y", "z")):
            self.refuses(InvalidRule, words, Rule, *words)
        self.refuses(InvalidRule, ("left", "newest", "whole"), Rule, "left")

    def test_equality(self):
        rules = [Rule.read(text) for text in TEXTS]
        for one in range(8):
            for two in range(8):
                self.same(rules[one] == rules[two], one == two)
        for other in (TEXTS[0], ("after", "newest", "whole"), None, 1):
            self.same(Rule() == other, False)
            self.same(Rule() != other, True)

    def test_the_other_side(self):
        self.assertEqual(~Rule(), Rule("before"))
        for text in TEXTS:
            rule = Rule.read(text)
            self.assertNotEqual((~rule).side, rule.side)
            self.assertEqual(((~rule).order, (~rule).link), (rule.order, rule.link))
            self.assertEqual(~~rule, rule)
            self.assertEqual(rule.text(), text)
        for name in ("__eq__", "__invert__", "text", "read"):
            self.assertIn(name, vars(Rule))

    def test_texts(self):
        for text in TEXTS:
            self.assertEqual(Rule.read(text).text(), text)
        self.assertEqual(Rule.read("before oldest whole"), Rule("before", "oldest", "whole"))

    def test_texts_that_are_refused(self):
        for text in ("", "after", "after newest", "after newest whole ", " after newest whole", "after  newest whole",
                     "after newest whole whole", "newest after whole", "After newest whole", "after,newest,whole"):
            self.refuses(InvalidText, text, Rule.read, text)

    def test_all_rules(self):
        self.assertEqual([rule.text() for rule in all_rules()], TEXTS)
        self.assertEqual([rule.text() for rule in all_rules(side="before")], TEXTS[4:])
        self.assertEqual([rule.text() for rule in all_rules(order="oldest")], TEXTS[2:4] + TEXTS[6:])
        self.assertEqual([rule.text() for rule in all_rules(link="loose")], TEXTS[1::2])
        self.assertEqual([rule.text() for rule in all_rules(side="after", link="whole")], [TEXTS[0], TEXTS[2]])
        self.assertEqual(all_rules(side="before", order="newest", link="loose"), [Rule.read(TEXTS[5])])
        self.assertEqual(all_rules(side=None, order=None, link=None), all_rules())

    def test_the_list_is_a_new_one(self):
        all_rules().clear()
        self.assertEqual(len(all_rules()), 8)
        with self.assertRaises(TypeError):
            all_rules("after")


if __name__ == "__main__":
    unittest.main()
