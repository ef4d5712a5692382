"""Desks, which lead a day by lines."""

from stillgrows.cuts import known_verdict
from stillgrows.digits import read_number
from stillgrows.errors import GrowsError, InvalidCommand, UnknownName
from stillgrows.fates import fate
from stillgrows.firsts import count_all, first_rows
from stillgrows.journals import deed_text, is_name, journal, key_text, orders_text, read_deed
from stillgrows.leasts import least_saying
from stillgrows.meanings import saying_of_text
from stillgrows.papers import paper_of
from stillgrows.posts import widest_orders
from stillgrows.reports import boards_report, rows_report
from stillgrows.stations import check_station
from stillgrows.sures import sure_saying
from stillgrows.together import pooled_verdict
from stillgrows.verdicts import growth_in, growth_out
from stillgrows.words import check_signs, row_text

DEEDS = ("speak", "hear", "watch")
# What stands behind the first word of the other lines: n is a name, i the index of a
# station and m any number.
FORMS = {"undo": "", "rows": "", "boards": "", "journal": "", "fate": "n", "pool": "n", "orders": "n", "why": "in",
         "knows": "in", "least": "nm"}


def form_of(words):
    """Return what must stand behind the first word of a line, or None if no line begins so."""
    if words[0] == "knows":
        return FORMS["knows"] + "i" * (len(words) - 3)
    return FORMS.get(words[0])


def has_form(words, form):
    """Tell whether the words behind the first one have the form."""
    if form is None or len(words) != len(form) + 1:
        return False
    return all([is_name(word) if kind == "n" else read_number(word) >= 0 for kind, word in zip(form, words[1:])])


def judged_lot(day):
    """Return the judged lot of the stations of the day."""
    return day.stations[0].judged_lot()


def watched_saying(day, name):
    """Return the saying that the day watches under the name, or raise UnknownName."""
    for deed in day.deeds():
        if deed[0] == "watch" and deed[1] == name:
            return deed[2]
    raise UnknownName(name)


def reasons(day, saying, index):
    """Return the paper of the row of the station, or growths into the saying and out of it."""
    lot, row = judged_lot(day), day.stations[index].row
    paper = paper_of(saying, lot, row)
    if paper is not None:
        return [paper.text()]
    return ["in " + growth_in(saying, lot, row).text(), "out " + growth_out(saying, lot, row).text()]


def least_lines(day, saying, many):
    """Return the number of the least rows of the sure rows, and the first of them."""
    lot = judged_lot(day)
    least = least_saying(sure_saying(saying, lot), lot)
    number = count_all(least)
    return ["endless" if number is None else str(number)] + [row_text(row) for row in first_rows(least, many)]


def answer_about(day, word, saying, numbers):
    """Return the answer to a line that names a saying; `numbers` are those of the line, in order."""
    if word == "fate":
        return [fate(saying, judged_lot(day), day.start)]
    if word == "pool":
        stations = day.stations
        return [pooled_verdict(saying, *stations)]
    if word == "orders":
        return [orders_text(widest_orders(saying, day.start, judged_lot(day)))]
    if word == "why":
        return reasons(day, saying, numbers[0])
    if word == "knows":
        return [known_verdict(day.stations[numbers[0]], numbers[1:], saying)]
    return least_lines(day, saying, numbers[0])


class Desk:
    """A day that is led by lines, with the alphabet of the sayings that are watched."""

    def __init__(self, day, signs):
        self.signs = check_signs(signs)
        self.day = day

    def answer(self, line):
        """Carry out the line and return its answer, a list of lines."""
        words = line.split(" ")
        if words[0] in DEEDS:
            return self._do(words, line)
        form = form_of(words)
        if not has_form(words, form):
            raise InvalidCommand(line)
        if words[0] == "undo":
            return [deed_text(self.day.undo())]
        if words[0] == "rows":
            return rows_report(self.day)
        if words[0] == "boards":
            return boards_report(self.day)
        if words[0] == "journal":
            return journal(self.day)
        return self._look_up(words, form)

    def run(self, *lines, keep=False):
        """Carry out the lines and return the list of their answers, or raise InvalidCommand with the refused one."""
        before = self.day.deeds()
        answers = []
        for line in lines:
            try:
                answers.append(self.answer(line))
            except GrowsError as error:
                if not keep:
                    self._return_to(before)
                raise InvalidCommand(line) from error
        return answers

    def _look_up(self, words, form):
        """Return the answer to a line that names a saying."""
        named = [(kind, word) for kind, word in zip(form, words[1:])]
        names = [word for kind, word in named if kind == "n"]
        saying = watched_saying(self.day, names[0])
        for kind, word in named:
            if kind == "i":
                check_station(int(word), self.day.count)
        numbers = [int(word) for kind, word in named if kind != "n"]
        return answer_about(self.day, words[0], saying, numbers)

    def _do(self, words, line):
        """Do the deed of the line and return its answer."""
        deed = self._read_watch(words, line) if words[0] == "watch" else read_deed(line)
        settled = len(self.day.told())
        worth = self.day.do(deed)
        if deed[0] == "watch":
            first = f"{deed[2].size} states"
        elif deed[0] == "hear":
            first = f"{worth} heard, {self.day.stations[deed[1]].waiting} waiting"
        else:
            first = f"{key_text(worth.key)} {self.day.stations[deed[1]].row}"
        return [first] + [f"{index} {name} {verdict}" for index, name, verdict in self.day.told()[settled:]]

    def _read_watch(self, words, line):
        """Return the deed of a line that watches the saying of a pattern."""
        if len(words) != 3 or not is_name(words[1]) or words[2] == "":
            raise InvalidCommand(line)
        return "watch", words[1], saying_of_text(words[2], self.signs)

    def _return_to(self, deeds):
        """Let the day have these deeds again; those that it still has at its beginning are not done anew."""
        done = self.day.deeds()
        same = 0
        while same < len(done) and same < len(deeds) and done[same] == deeds[same]:
            same += 1
        for _ in range(len(done) - same):
            self.day.undo()
        for deed in deeds[same:]:
            self.day.do(deed)
