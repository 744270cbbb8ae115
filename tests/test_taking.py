import unittest

from heardhouse.papers import taken
from tests.house import (
    CASE, LONG, WORD, answer, appeal, claim, decision, evidence, motion, paper, reply, ruling, strike, unseal,
)

BENCH_KINDS = ("ruling", "strike", "unseal", "decision")
# One taken paper of each kind: their numbers are fixed, so each test adds papers from 11 on.
GROUND = [
    claim(1), motion(2, 1), answer(3, 1), reply(4, 2), evidence(5, 2), ruling(6, 1, ((1, 0),)),
    strike(7, 5), unseal(8, 1, ((1, 0),)), appeal(9, 6), decision(10, 9, "upheld"),
]
KIND_OF = {row[0]: row[3] for row in GROUND}
FITTING = {
    "motion": ("claim",), "answer": ("claim",), "reply": ("motion",), "evidence": ("claim", "motion"),
    "ruling": ("claim", "motion"), "strike": tuple(KIND_OF.values()), "unseal": tuple(KIND_OF.values()),
    "appeal": ("ruling",), "decision": ("appeal",),
}


class Asking(unittest.TestCase):
    def words(self, papers, case=LONG):
        return dict(taken(case, papers))

    def told(self, word, ahead, row, case=LONG):
        """What is told of one paper behind papers that are all taken."""
        told = self.words(ahead + [row], case)
        self.assertEqual([told[one[0]] for one in ahead], ["taken"] * len(ahead))
        self.assertEqual(told[row[0]], word, row)


class Ground(Asking):
    def test_each_kind_can_be_taken(self):
        self.assertEqual(taken(LONG, GROUND), [(row[0], "taken") for row in GROUND])


class Maker(Asking):
    def row(self, kind, by):
        about = {"reply": 2, "appeal": 6, "decision": 9}.get(kind, 1)
        if kind == "claim":
            about = None
        words = (("upheld", "open"),) if kind == "decision" else (WORD,)
        rests = ((1, 0),) if kind in ("ruling", "unseal") else ()
        return paper(11, by, kind, about, words=words, rests=rests)

    def test_for_each_kind_and_each_maker(self):
        for kind in ("claim",) + tuple(FITTING):
            for by in ("ann", "ben", "cid", "dot", "jon", "kay", "lou", "nobody"):
                side = {"ann": "asker", "cid": "asker", "ben": "answerer", "dot": "answerer"}.get(by)
                right = side is not None
                if kind == "claim":
                    right = side == "asker"
                if kind == "answer":
                    right = side == "answerer"
                if kind in BENCH_KINDS:
                    right = by in ("jon", "kay", "lou")
                word = self.words(GROUND + [self.row(kind, by)])[11]
                self.assertEqual(word == "maker", not right, (kind, by))

    def test_goes_ahead_of_all_others(self):
        late = LONG[:3] + (((0, "days"),) * 4,)
        for row in (
            answer(11, 99, by="ann"), reply(11, 99, by="jon"), ruling(11, 99, (), by="ann"),
            unseal(11, 99, (), by="ben"), appeal(11, 99, by="kay"), decision(11, 99, "no", by="ann"),
            strike(11, 99, by="cid"), motion(11, 99, by="lou"), evidence(11, 99, by="nobody"),
        ):
            self.told("maker", GROUND, row)
        self.told("maker", [claim(1)], answer(11, 1, by="cid", day=50), late)


class About(Asking):
    def test_for_each_kind_and_each_subject(self):
        for kind, fitting in FITTING.items():
            for number, other in KIND_OF.items():
                by = {"answer": "dot"}.get(kind, "lou" if kind in BENCH_KINDS else "cid")
                rests = ((number, 0),) if kind == "unseal" else ()
                if kind == "ruling":
                    rests = ((1, 0),)
                words = (("upheld", "open"),) if kind == "decision" else (WORD,)
                row = paper(11, by, kind, number, words=words, rests=rests)
                word = self.words(GROUND + [row])[11]
                if kind == "decision" and other == "appeal":
                    self.assertEqual(word, "twice")
                else:
                    self.assertEqual(word, "taken" if other in fitting else "about", (kind, other))

    def test_no_paper_at_all(self):
        for row in (
            motion(11, 99), answer(11, 99), reply(11, 99), evidence(11, 99), ruling(11, 99, ((1, 0),)),
            strike(11, 99), unseal(11, 99, ((99, 0),)), appeal(11, 99), decision(11, 99),
        ):
            self.told("about", GROUND, row)

    def test_a_paper_behind_it(self):
        papers = [claim(1, day=3), motion(2, 1, day=2), strike(3, 1, day=1)]
        self.assertEqual(self.words(papers), {3: "about", 2: "about", 1: "taken"})

    def test_a_refused_paper(self):
        papers = [claim(1, by="ben"), motion(2, 1), strike(3, 1), unseal(4, 2, ((2, 0),)), evidence(5, 2)]
        self.assertEqual(self.words(papers), {1: "maker", 2: "about", 3: "about", 4: "about", 5: "about"})

    def test_a_struck_paper_is_still_taken(self):
        papers = [claim(1), strike(2, 1), motion(3, 1), answer(4, 1), evidence(5, 3), strike(6, 1)]
        self.assertEqual(set(self.words(papers).values()), {"taken"})

    def test_goes_ahead_of_what_is_behind_it(self):
        self.told("about", GROUND, ruling(11, 6, ()))
        self.told("about", GROUND, unseal(11, 99, ()))
        self.told("about", GROUND, decision(11, 6, "no"))
        self.told("about", GROUND, answer(11, 2))
        self.told("about", GROUND, appeal(11, 1, day=2000))


class Own(Asking):
    def test_a_reply_by_who_made_the_motion(self):
        self.told("own", [claim(1), motion(2, 1)], reply(3, 2, by="ann"))
        self.told("taken", [claim(1), motion(2, 1)], reply(3, 2, by="cid"))
        self.told("own", [claim(1), motion(2, 1, by="ben")], reply(3, 2, by="ben"))
        self.told("taken", [claim(1), motion(2, 1, by="ben")], reply(3, 2, by="ann"))

    def test_others_may_be_about_their_own(self):
        self.told("taken", [claim(1)], motion(2, 1, by="ann"))
        self.told("taken", [claim(1)], evidence(2, 1, by="ann"))
        self.told("taken", GROUND, strike(11, 6, by="jon"))
        self.told("taken", GROUND, unseal(11, 6, ((6, 0),), by="jon"))

    def test_a_decision_by_who_made_the_ruling(self):
        ahead = [claim(1), ruling(2, 1, ((1, 0),), by="jon"), appeal(3, 2)]
        for text in ("upheld", "undone", "back", "no"):
            self.told("own", ahead, decision(4, 3, text, by="jon"))
        self.told("taken", ahead, decision(4, 3, "undone", by="kay"))

    def test_a_decision_by_who_made_another_ruling(self):
        ahead = [
            claim(1), ruling(2, 1, ((1, 0),), by="jon"), ruling(3, 1, ((1, 0),), by="kay"), appeal(4, 2),
        ]
        self.told("taken", ahead, decision(5, 4, by="kay"))
        self.told("own", ahead, decision(5, 4, by="jon"))

    def sent(self, text="back", about=1):
        return [
            claim(1), motion(2, 1), ruling(3, about, ((1, 0),), by="jon"), appeal(4, 3),
            decision(5, 4, text, by="kay"),
        ]

    def test_a_ruling_by_whose_ruling_was_sent_back(self):
        self.told("own", self.sent(), ruling(6, 1, ((1, 0),), by="jon"))
        self.told("own", self.sent(about=2), ruling(6, 2, ((1, 0),), by="jon"))
        self.told("own", self.sent(), ruling(6, 1, (), by="jon"))

    def test_another_judge_may_rule_then(self):
        self.told("taken", self.sent(), ruling(6, 1, ((1, 0),), by="kay"))
        self.told("taken", self.sent(), ruling(6, 1, ((1, 0),), by="lou"))

    def test_about_another_paper_the_same_judge_may_rule(self):
        self.told("taken", self.sent(), ruling(6, 2, ((1, 0),), by="jon"))
        self.told("taken", self.sent(about=2), ruling(6, 1, ((1, 0),), by="jon"))

    def test_other_decisions_send_nothing_back(self):
        self.told("taken", self.sent("undone"), ruling(6, 1, ((1, 0),), by="jon"))
        self.told("taken", self.sent("upheld"), ruling(6, 1, ((1, 0),), by="jon"))

    def test_only_the_first_word_decides(self):
        ahead = self.sent()[:4] + [paper(5, "kay", "decision", 4, words=(("upheld", "open"), ("back", "open")))]
        self.told("taken", ahead, ruling(6, 1, ((1, 0),), by="jon"))
        ahead = self.sent()[:4] + [paper(5, "kay", "decision", 4, words=(("back", ()), ("upheld", "open")))]
        self.told("own", ahead, ruling(6, 1, ((1, 0),), by="jon"))

    def test_a_struck_decision_sends_nothing_back(self):
        again = ruling(9, 1, ((1, 0),), by="jon")
        self.told("taken", self.sent() + [strike(6, 5)], again)
        self.told("own", self.sent() + [strike(6, 5), strike(7, 6)], again)
        self.told("taken", self.sent() + [strike(6, 5), strike(7, 6), strike(8, 7)], again)

    def test_a_decision_on_a_struck_appeal_sends_nothing_back(self):
        again = ruling(9, 1, ((1, 0),), by="jon")
        self.told("taken", self.sent() + [strike(6, 4)], again)
        self.told("own", self.sent() + [strike(6, 4), strike(7, 6)], again)

    def test_a_struck_ruling_is_sent_back_all_the_same(self):
        self.told("own", self.sent() + [strike(6, 3)], ruling(9, 1, ((1, 0),), by="jon"))

    def test_of_two_appeals_one_is_enough(self):
        ahead = self.sent("upheld") + [appeal(6, 3, by="dot"), decision(7, 6, "back", by="lou")]
        self.told("own", ahead, ruling(9, 1, ((1, 0),), by="jon"))

    def test_a_decision_behind_counts_nothing(self):
        papers = self.sent()[:4] + [ruling(5, 1, ((1, 0),), by="jon"), decision(6, 4, "back", by="kay")]
        self.assertEqual(self.words(papers)[5], "taken")

    def test_a_refused_decision_sends_nothing_back(self):
        papers = self.sent()[:4] + [decision(5, 4, "back", by="jon"), ruling(6, 1, ((1, 0),), by="jon")]
        told = self.words(papers)
        self.assertEqual((told[5], told[6]), ("own", "taken"))

    def test_goes_ahead_of_what_is_behind_it(self):
        self.told("own", [claim(1), motion(2, 1)], reply(3, 2, by="ann", day=2000))
        ahead = [claim(1), ruling(2, 1, ((1, 0),)), appeal(3, 2), decision(4, 3, "upheld")]
        self.told("own", ahead, decision(5, 3, "no", by="jon"))


class Late(Asking):
    # In CASE: answers 10 days, replies 3 open days, appeals 5 days; 9, 10 and 14 are holidays.
    def test_answers(self):
        self.told("taken", [claim(1)], answer(2, 1, day=8), CASE)
        self.told("taken", [claim(1)], answer(2, 1, day=10), CASE)
        self.told("taken", [claim(1)], answer(2, 1, day=11), CASE)
        self.told("late", [claim(1)], answer(2, 1, day=12), CASE)
        self.told("late", [claim(1)], answer(2, 1, day=15), CASE)

    def test_replies(self):
        ahead = [claim(1), motion(2, 1)]
        self.told("taken", ahead, reply(3, 2, day=3), CASE)
        self.told("late", ahead, reply(3, 2, day=4), CASE)
        ahead = [claim(1), motion(2, 1, day=8)]
        self.told("taken", ahead, reply(3, 2, day=16), CASE)
        self.told("late", ahead, reply(3, 2, day=17), CASE)

    def test_appeals(self):
        ahead = [claim(1), ruling(2, 1, ((1, 0),))]
        self.told("taken", ahead, appeal(3, 2, day=5), CASE)
        self.told("taken", ahead, appeal(3, 2, day=7), CASE)
        self.told("late", ahead, appeal(3, 2, day=8), CASE)

    def test_each_kind_has_its_own_term(self):
        terms = ((7, "days"), (8, "days"), (9, "days"), (0, "days"))
        case = LONG[:3] + (terms,)
        ahead = [claim(1), motion(2, 1), ruling(3, 1, ((1, 0),))]
        for day in (7, 8, 9, 10):
            self.told("taken" if day <= 7 else "late", ahead, answer(4, 1, day=day), case)
            self.told("taken" if day <= 8 else "late", ahead, reply(4, 2, day=day), case)
            self.told("taken" if day <= 9 else "late", ahead, appeal(4, 3, day=day), case)

    def test_by_filed_days(self):
        case = LONG[:3] + (((2, "days"),) * 4,)
        self.told("taken", [claim(1, day=5)], answer(2, 1, day=9), case)
        self.told("late", [claim(1, day=5)], answer(2, 1, day=10), case)
        self.told("taken", [claim(1, day=3)], answer(2, 1, day=5), case)
        self.told("taken", [claim(1, day=3)], answer(2, 1, day=7), case)
        self.told("late", [claim(1, day=3)], answer(2, 1, day=8), case)

    def test_a_term_of_none(self):
        for unit in ("days", "open"):
            case = LONG[:3] + (((0, unit),) * 4,)
            self.told("taken", [claim(1)], answer(2, 1), case)
            self.told("late", [claim(1)], answer(2, 1, day=1), case)

    def test_the_claims_own_day_counts_not_another_ones(self):
        case = LONG[:3] + (((2, "days"),) * 4,)
        ahead = [claim(1), claim(2, day=14)]
        self.told("late", ahead, answer(3, 1, day=15), case)
        self.told("taken", ahead, answer(3, 2, day=15), case)

    def test_other_kinds_keep_no_term(self):
        case = LONG[:3] + (((0, "days"),) * 4,)
        ahead = [claim(1), ruling(2, 1, ((1, 0),)), appeal(3, 2)]
        for row in (
            motion(4, 1, day=900), evidence(4, 1, day=900), ruling(4, 1, ((1, 0),), day=900),
            strike(4, 1, day=900), unseal(4, 1, ((1, 0),), day=900), decision(4, 3, day=900),
        ):
            self.told("taken", ahead, row, case)

    def test_goes_ahead_of_twice(self):
        case = LONG[:3] + (((2, "days"),) * 4,)
        self.told("late", [claim(1), answer(2, 1)], answer(3, 1, day=8), case)


class Twice(Asking):
    def test_an_answer_by_the_same(self):
        ahead = [claim(1), claim(2), answer(3, 1, by="ben")]
        self.told("twice", ahead, answer(4, 1, by="ben"))
        self.told("taken", ahead, answer(4, 1, by="dot"))
        self.told("taken", ahead, answer(4, 2, by="ben"))

    def test_a_struck_answer_is_still_taken(self):
        self.told("twice", [claim(1), answer(2, 1), strike(3, 2)], answer(4, 1))

    def test_a_refused_answer_does_not_count(self):
        case = LONG[:3] + (((2, "days"),) * 4,)
        papers = [answer(1, 2, day=0), claim(2), answer(3, 2)]
        self.assertEqual(self.words(papers, case), {1: "about", 2: "taken", 3: "taken"})

    def test_a_decision_about_the_same_appeal(self):
        ahead = [claim(1), ruling(2, 1, ((1, 0),)), appeal(3, 2), appeal(4, 2), decision(5, 3, "upheld", by="kay")]
        self.told("twice", ahead, decision(6, 3, "undone", by="kay"))
        self.told("twice", ahead, decision(6, 3, "undone", by="lou"))
        self.told("taken", ahead, decision(6, 4, "undone", by="kay"))

    def test_a_struck_decision_is_still_taken(self):
        ahead = [claim(1), ruling(2, 1, ((1, 0),)), appeal(3, 2), decision(4, 3), strike(5, 4)]
        self.told("twice", ahead, decision(6, 3, by="lou"))

    def test_a_refused_decision_does_not_count(self):
        papers = [claim(1), ruling(2, 1, ((1, 0),)), appeal(3, 2), decision(4, 3, "no"), decision(5, 3)]
        self.assertEqual([self.words(papers)[number] for number in (4, 5)], ["words", "taken"])

    def test_others_may_come_twice(self):
        self.told("taken", GROUND, motion(11, 1))
        self.told("taken", GROUND, reply(11, 2))
        self.told("taken", GROUND, evidence(11, 2))
        self.told("taken", GROUND, ruling(11, 1, ((1, 0),)))
        self.told("taken", GROUND, strike(11, 5))
        self.told("taken", GROUND, unseal(11, 1, ((1, 0),)))
        self.told("taken", GROUND, appeal(11, 6))
        self.told("taken", GROUND, claim(11))

    def test_goes_ahead_of_words(self):
        self.told("twice", GROUND, decision(11, 9, "no"))


class Rests(Asking):
    two = (WORD, WORD)

    def test_a_ruling_without_rests(self):
        self.told("rests", [claim(1)], ruling(2, 1, ()))

    def test_a_ruling_on_places(self):
        ahead = [claim(1, words=self.two), motion(2, 1, words=())]
        self.told("taken", ahead, ruling(3, 1, ((1, 0),)))
        self.told("taken", ahead, ruling(3, 1, ((1, 1),)))
        self.told("taken", ahead, ruling(3, 1, ((1, 0), (1, 1))))
        self.told("rests", ahead, ruling(3, 1, ((1, 2),)))
        self.told("rests", ahead, ruling(3, 1, ((1, 0), (1, 2))))
        self.told("rests", ahead, ruling(3, 1, ((2, 0),)))
        self.told("rests", ahead, ruling(3, 1, ((1, 0), (2, 0))))

    def test_a_ruling_on_no_paper(self):
        self.told("rests", [claim(1)], ruling(2, 1, ((3, 0),)))
        self.told("rests", [claim(1)], ruling(2, 1, ((2, 0),)))
        self.told("rests", [claim(5)], ruling(6, 5, ((1, 0), (5, 0))))

    def test_a_ruling_on_a_paper_behind_it(self):
        self.assertEqual(self.words([claim(1), ruling(2, 1, ((3, 0),)), evidence(3, 1)])[2], "rests")
        self.assertEqual(self.words([claim(1), ruling(3, 1, ((2, 0),)), evidence(2, 1)])[3], "taken")

    def test_a_ruling_on_a_refused_paper(self):
        self.assertEqual(self.words([claim(1), claim(2, by="ben"), ruling(3, 1, ((2, 0),))])[3], "rests")

    def test_a_ruling_on_each_kind(self):
        ahead = [row for row in GROUND if row[3] != "strike"]
        for row in ahead:
            self.told("taken", ahead, ruling(11, 1, ((row[0], 0),)))
        self.told("taken", [claim(1), motion(2, 1), strike(3, 2)], ruling(4, 1, ((3, 0),)))

    def test_a_ruling_about_what_does_not_stand_is_taken(self):
        self.told("taken", [claim(1), evidence(2, 1), strike(3, 1)], ruling(4, 1, ((2, 0),)))

    def test_an_unsealing_without_rests(self):
        self.told("rests", [claim(1)], unseal(2, 1, ()))

    def test_an_unsealing_of_words_of_its_paper(self):
        ahead = [claim(1, words=self.two), evidence(2, 1, words=self.two)]
        self.told("taken", ahead, unseal(3, 1, ((1, 0), (1, 1))))
        self.told("taken", ahead, unseal(3, 2, ((2, 1),)))
        self.told("rests", ahead, unseal(3, 1, ((1, 2),)))
        self.told("rests", ahead, unseal(3, 1, ((1, 0), (1, 2))))
        self.told("rests", ahead, unseal(3, 1, ((2, 0),)))
        self.told("rests", ahead, unseal(3, 1, ((1, 0), (2, 0))))
        self.told("rests", ahead, unseal(3, 1, ((3, 0),)))

    def test_an_unsealing_of_a_struck_paper(self):
        self.told("taken", [claim(1), strike(2, 1)], unseal(3, 1, ((1, 0),)))

    def test_an_unsealing_of_a_ruling_and_of_an_unsealing(self):
        ahead = [claim(1), ruling(2, 1, ((1, 0),)), unseal(3, 2, ((2, 0),))]
        self.told("taken", ahead, unseal(4, 3, ((3, 0),)))
        self.told("rests", ahead, unseal(4, 2, ((1, 0),)))


class Words(Asking):
    ahead = [claim(1), ruling(2, 1, ((1, 0),)), appeal(3, 2)]

    def test_the_three_words(self):
        for text in ("upheld", "undone", "back"):
            self.told("taken", self.ahead, decision(4, 3, text))

    def test_other_words(self):
        for text in ("", "Upheld", "upheld ", " back", "undo", "backs", "no"):
            self.told("words", self.ahead, decision(4, 3, text))

    def test_no_word(self):
        self.told("words", self.ahead, paper(4, "kay", "decision", 3, words=()))

    def test_only_the_first_word_counts(self):
        words = (("no", "open"), ("undone", "open"))
        self.told("words", self.ahead, paper(4, "kay", "decision", 3, words=words))
        self.told("taken", self.ahead, paper(4, "kay", "decision", 3, words=words[::-1]))

    def test_whatever_the_seal(self):
        for seal in ("parties", "bench", (), ("ann",)):
            self.told("taken", self.ahead, paper(4, "kay", "decision", 3, words=(("back", seal),)))

    def test_other_kinds_say_what_they_like(self):
        self.told("taken", [], claim(1, words=()))
        self.told("taken", [claim(1)], strike(2, 1, words=()))
        self.told("taken", [claim(1)], ruling(2, 1, ((1, 0),), words=()))


if __name__ == "__main__":
    unittest.main()
