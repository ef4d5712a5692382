"""Rules of placing: where the groups of calls come to stand that hang on one anchor."""

from stillgrows.errors import InvalidRule, InvalidText


class Rule:
    """A side, an order and a link."""

    SIDES = ("after", "before")
    ORDERS = ("newest", "oldest")
    LINKS = ("whole", "loose")

    def __init__(self, side="after", order="newest", link="whole"):
        if side not in Rule.SIDES or order not in Rule.ORDERS or link not in Rule.LINKS:
            raise InvalidRule((side, order, link))
        self.side = side
        self.order = order
        self.link = link

    @classmethod
    def read(cls, text):
        """Return the rule that the text writes, or raise InvalidText."""
        words = text.split(" ")
        if len(words) != 3:
            raise InvalidText(text)
        try:
            return cls(words[0], words[1], words[2])
        except InvalidRule:
            raise InvalidText(text) from None

    def text(self):
        """Return the text of the rule."""
        return f"{self.side} {self.order} {self.link}"

    def __eq__(self, other):
        return (isinstance(other, Rule) and self.side == other.side
                and self.order == other.order and self.link == other.link)

    def __invert__(self):
        side = "before" if self.side == "after" else "after"
        return Rule(side, self.order, self.link)


def all_rules(*, side=None, order=None, link=None):
    """Return the list of the rules with the given words; None leaves a word open."""
    sides = [word for word in Rule.SIDES if side in (None, word)]
    orders = [word for word in Rule.ORDERS if order in (None, word)]
    links = [word for word in Rule.LINKS if link in (None, word)]
    return [Rule(first, second, third) for first in sides for second in orders for third in links]
