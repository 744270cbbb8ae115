import unittest

from heardhouse.papers import is_case, is_paper
from tests.house import ANYTHING, BENCH, CALENDAR, CASE, PARTIES, Alike, Angry, claim, paper

BAD_NAMES = (
    "", "Ann", "ann1", "a b", "a-b", "public", "abcdefghi", "\u00e9va", "\u00df", "\u0430nn",
    b"ann", 1, None, ("ann",), ["ann"], True,
)
ABOUT = {
    "claim": None, "motion": 1, "answer": 1, "reply": 2, "evidence": 1, "ruling": 1,
    "strike": 3, "unseal": 3, "appeal": 4, "decision": 5,
}


def case_with(place, thing):
    return CASE[:place] + (thing,) + CASE[place + 1:]


def paper_with(row, place, thing):
    return row[:place] + (thing,) + row[place + 1:]


def good(kind):
    rests = ((1, 0), (1, 1), (3, 0)) if kind in ("ruling", "unseal") else ()
    return (9, 4, "ann", kind, ABOUT[kind], (("said", "open"),), rests)


ODD = (Alike(), Angry())


class Asking(unittest.TestCase):
    def yes(self, ask, thing):
        self.assertIs(ask(thing), True, thing)

    def no(self, ask, thing):
        self.assertIs(ask(thing), False, thing)


class Cases(Asking):
    def test_good_cases(self):
        self.yes(is_case, CASE)
        self.yes(is_case, ((), (("a", "asker"), ("b", "answerer")), ("c",), ((0, "days"),) * 4))
        self.yes(is_case, case_with(1, (("a", "answerer"), ("zzzzzzzz", "asker"))))
        self.yes(is_case, case_with(2, ("publi", "publics")))
        self.assertIs(is_case(thing=CASE), True)

    def test_what_is_no_case(self):
        for thing in ANYTHING + ((), list(CASE), CASE[:3], CASE + ((),), CASE[::-1]):
            self.no(is_case, thing)

    def test_odd_things_in_each_place(self):
        term = (1, "days")
        for thing in ODD:
            for place in range(4):
                self.no(is_case, case_with(place, thing))
                self.no(is_case, case_with(place, (thing,)))
                self.no(is_case, case_with(3, (term,) * place + (thing,) + (term,) * (3 - place)))
            self.no(is_case, case_with(1, PARTIES + (("eve", thing),)))
            self.no(is_case, case_with(1, (("ann", thing), ("ben", thing))))
            self.no(is_case, case_with(3, (term, term, term, (1, thing))))

    def test_calendars(self):
        for thing in ANYTHING + (list(CALENDAR), (2, 1), (1, 1), (True,), (-1,)):
            self.no(is_case, case_with(0, thing))

    def test_parties(self):
        self.yes(is_case, case_with(1, PARTIES[:2]))
        one, two = PARTIES[:2]
        bad = (
            (), (one,), (two,), (one, ("ben", "asker")), (("ann", "answerer"), two), list(PARTIES),
            (two, one), (one, one, two), (one, ("ann", "answerer")), (one, list(two)),
            (one, two + (1,)), (one, two, ("cid",)), (one, two, ("cid", "judge")), (one, two, ("cid", None)),
            (one, two, ("cid", ["asker"])), (one, two, ("cid", "Asker")), (one, two, "cid"), (one, two, None),
        )
        for thing in bad + ANYTHING:
            self.no(is_case, case_with(1, thing))

    def test_names(self):
        for name in BAD_NAMES:
            self.no(is_case, case_with(1, ((name, "asker"), ("zed", "answerer"))))
            self.no(is_case, case_with(2, (name,)))
            self.no(is_case, case_with(2, ("aaa", name)))

    def test_the_bench(self):
        bad = (
            (), list(BENCH), ("kay", "jon"), ("jon", "jon"), ("ann",), ("dot", "jon"), ("ben", "jon", "kay"),
            "jon", (("jon",),), ("jon", None),
        )
        for thing in bad + ANYTHING:
            self.no(is_case, case_with(2, thing))
        self.yes(is_case, case_with(2, ("jon",)))

    def test_terms(self):
        term = (1, "days")
        self.yes(is_case, case_with(3, (term, (0, "open"), term, (400, "open"))))
        bad = (
            (), (term,) * 3, (term,) * 5, [term] * 4, term, (term, term, term, (-1, "days")),
            (term, term, term, (True, "days")), (term, term, (1, "weeks"), term), (term, [1, "days"], term, term),
            ((1,), term, term, term), (None, term, term, term),
        )
        for thing in bad + ANYTHING:
            self.no(is_case, case_with(3, thing))


class Papers(Asking):
    def test_good_papers(self):
        for kind in ABOUT:
            self.yes(is_paper, good(kind))
            self.yes(is_paper, paper_with(good(kind), 6, ()))
            self.yes(is_paper, paper_with(good(kind), 5, ()))
            self.yes(is_paper, paper_with(good(kind), 2, "abcdefgh"))
        self.yes(is_paper, paper(999999999999, "x", "claim", day=999999999999))
        self.assertIs(is_paper(thing=good("reply")), True)

    def test_what_is_no_paper(self):
        row = good("ruling")
        for thing in ANYTHING + ((), row[:6], row + ((),), list(row), row[::-1], [row]):
            self.no(is_paper, thing)

    def test_odd_things_in_each_place(self):
        for thing in ODD:
            for place in range(7):
                for kind in ABOUT:
                    self.no(is_paper, paper_with(good(kind), place, thing))
            for row in ((thing, "open"), ("said", thing), ("said", (thing,)), thing):
                self.no(is_paper, claim(1, words=(row,)))
            for row in ((thing, 0), (1, thing), thing):
                self.no(is_paper, paper_with(good("ruling"), 6, (row,)))

    def test_numbers(self):
        for kind in ABOUT:
            for thing in (0, -1, True, 1.0, "9", None, (9,)):
                self.no(is_paper, paper_with(good(kind), 0, thing))

    def test_days(self):
        for kind in ABOUT:
            self.yes(is_paper, paper_with(good(kind), 1, 0))
            for thing in (-1, True, False, 1.0, "4", None):
                self.no(is_paper, paper_with(good(kind), 1, thing))

    def test_makers(self):
        for kind in ABOUT:
            for name in BAD_NAMES:
                self.no(is_paper, paper_with(good(kind), 2, name))

    def test_kinds(self):
        for thing in ("", "Claim", "claims", "order", None, 1, True, ("claim",), ["claim"], b"claim"):
            self.no(is_paper, paper_with(good("motion"), 3, thing))
            self.no(is_paper, paper_with(good("claim"), 3, thing))

    def test_about(self):
        for thing in (1, 0, False, "", (), 2):
            self.no(is_paper, paper_with(good("claim"), 4, thing))
        for kind in ABOUT:
            if kind != "claim":
                self.yes(is_paper, paper_with(good(kind), 4, 10))
                for thing in (None, 0, -1, True, 1.0, "1", (1,), 9):
                    self.no(is_paper, paper_with(good(kind), 4, thing))

    def test_words(self):
        word = ("said", "open")
        for kind in ABOUT:
            row = good(kind)
            self.yes(is_paper, paper_with(row, 5, (word, word, ("", ()))))
            bad = (
                [word], word, None, "said", (word, None), (word, "said"), (list(word),), (("said",),),
                (word + ("open",),), ((1, "open"),), ((None, "open"),), ((b"said", "open"),), ((True, "open"),),
            )
            for thing in bad:
                self.no(is_paper, paper_with(row, 5, thing))

    def test_signs(self):
        signs = "".join(chr(number) for number in range(32, 127) if number != 37)
        self.yes(is_paper, claim(1, words=((signs, "open"),)))
        self.yes(is_paper, claim(1, words=((signs * 40, "open"),)))
        for number in list(range(32)) + [37, 127, 128, 160, 255, 300, 0x430, 0x2028, 0xd800, 0x1f600]:
            for text in (chr(number), "a" + chr(number), chr(number) + "a"):
                self.no(is_paper, claim(1, words=((text, "open"),)))

    def test_seals(self):
        for seal in ("open", "parties", "bench", (), ("ann",), ("ann", "ben"), ("nobody", "z")):
            self.yes(is_paper, claim(1, words=(("said", seal),)))
        bad = (
            "", "Open", "public", "ann", None, True, 0, ["ann"], {"ann"}, ("ben", "ann"), ("ann", "ann"),
            ("public",), ("ann", 1), (None,), (("ann",),), ("Ann",), b"open", ("abcdefghi",),
        )
        for seal in bad:
            self.no(is_paper, claim(1, words=(("said", seal),)))
            self.no(is_paper, claim(1, words=(("said", "open"), ("said", seal))))

    def test_rests(self):
        bad = (
            [(1, 0)], (1, 0), None, ((1, 0), (1, 0)), ((1, 1), (1, 0)), ((2, 0), (1, 5)), ((0, 0),), ((-1, 0),),
            ((1, -1),), ((True, 0),), ((1, True),), ((1, False),), ((1,),), ((1, 0, 0),), ([1, 0],), (("1", 0),),
            ((1, None),), (None,), (1,), ((1.0, 0),),
        )
        for kind in ("ruling", "unseal"):
            self.yes(is_paper, paper_with(good(kind), 6, ((1, 0), (1, 7), (2, 0))))
            self.yes(is_paper, paper_with(good(kind), 6, ((9, 0),)))
            for thing in bad:
                self.no(is_paper, paper_with(good(kind), 6, thing))

    def test_rests_of_kinds_that_have_none(self):
        for kind in ABOUT:
            if kind not in ("ruling", "unseal"):
                for thing in (((1, 0),), ((1, 0), (1, 1)), [], None, ""):
                    self.no(is_paper, paper_with(good(kind), 6, thing))


if __name__ == "__main__":
    unittest.main()
