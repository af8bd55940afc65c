"""Tests of [1.10]."""

from earliestlots.errors import BadStanding, BadText
from earliestlots.standtext import standing_of_text, standing_text
from tests.helper import Checks, standings_by_trying


class StandtextTests(Checks):

    def test_there_and_back(self):
        for places in range(5):
            for standing in standings_by_trying(places):
                text = " ".join(map(str, standing))
                self.same(standing_text(standing), text)
                self.same(standing_text(list(standing)), text)
                self.same(standing_of_text(text), standing)

    def test_edges(self):
        self.same(standing_text(()), "")
        self.same(standing_of_text(""), ())
        self.same(standing_text((6, 5, 4, 3, 2, 1, 0)), "6 5 4 3 2 1 0")
        self.same(standing_of_text("6 5 4 3 2 1 0"), (6, 5, 4, 3, 2, 1, 0))
        self.same(standing_of_text("0 0 0 0 0 0 0"), (0,) * 7)
        self.unchanged(standing_text, [1, 0])

    def test_wrong_standings(self):
        for ranks, index in ((None, -1), ("0", -1), ((0, 2), -1), ((0, True), 1), ((0,) * 8, -1), ((-1,), 0)):
            self.wrong(BadStanding, {"index": index}, standing_text, ranks)

    def test_what_is_no_string(self):
        for thing in (None, 0, True, b"0", ["0"], ("0", "1"), (), [], (0,)):
            self.wrong(BadText, {"place": -1}, standing_of_text, thing)

    def test_too_many_words_come_before_wrong_words(self):
        for text in ("0 0 0 0 0 0 0 0", "x x x x x x x x", "       ", "0 1 2 3 4 5 6 7"):
            self.wrong(BadText, {"place": -1}, standing_of_text, text)

    def test_the_first_wrong_word(self):
        for text, place in (
                ("7", 0), ("0 7", 1), ("0 x 9", 1), (" ", 0), (" 0", 0), ("0 ", 1), ("0  1", 1), ("0 1  ", 2),
                ("00", 0), ("0 01", 1), ("0 +1", 1), ("0 -1", 1), ("0\t1", 0), ("0\n1", 0), ("0 1\n", 1),
                ("\n", 0), ("      ", 0), ("0 1 2 3 4 5 7", 6), ("0,1", 0), ("0 \u0661", 1), ("\u00b2", 0),
                ("9 9", 0), ("0 a 0 0 0 0 b", 1), ("0\u00a01", 0), ("01234", 0)):
            self.wrong(BadText, {"place": place}, standing_of_text, text)

    def test_signs_that_are_no_standing(self):
        for text in ("1", "6", "0 2", "1 1", "0 1 3", "6 5 4 3 2 1 1", "0 0 0 0 0 0 2"):
            self.wrong(BadText, {"place": -1}, standing_of_text, text)
