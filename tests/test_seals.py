"""Points 13 to 15: who sees which words, and what a view tells."""

import itertools
import unittest

from heardhouse.errors import NoCase, NoDay, NoPaper, NoPerson, NoWord
from heardhouse.papers import docket, taken
from heardhouse.seals import sees, view
from tests import plain
from tests.asking import NO_CASES, NO_DAYS, NO_PAPERS, Asking, Soon, steps_of
from tests.chance import Chance
from tests.house import (
    ANYTHING, BENCH, CASE, LONG, answer, appeal, claim, decision, evidence, motion, paper, ruling, strike, unseal,
)

ASKERS = ("ann", "cid")
PARTIES = ("ann", "ben", "cid", "dot")
PERSONS = PARTIES + BENCH + ("public",)
ALL = "ann ben cid dot jon kay lou public"
COURT = "ann ben cid dot jon kay lou"
JUDGES = "jon kay lou"


def words(*seals):
    """Words of these seals, each of a text of its own."""
    return tuple((f"word {place}", seal) for place, seal in enumerate(seals))


class Seeing(Asking):
    def seen(self, names, papers, number, place=0, day=0, case=LONG):
        """Just these persons see the word, by sees and in their views."""
        for person in PERSONS:
            right = person in names.split()
            self.assertIs(sees(case, papers, person, number, place, day), right, person)
            texts = {row[0]: row[6] for row in view(case, papers, person, day)}
            text = {row[0]: row for row in docket(case, papers)}[number][5][place][0]
            self.assertEqual(texts[number][place], text if right else None, person)


class Seals(Seeing):
    def test_each_seal(self):
        papers = [claim(1, words=words("open", "parties", "bench", (), ("ben",), ("ann", "dot")))]
        for place, names in enumerate((ALL, COURT, JUDGES, JUDGES, "ben " + JUDGES, "ann dot " + JUDGES)):
            self.seen(names, papers, 1, place)

    def test_names_that_are_no_parties(self):
        seals = (("jon",), ("zed",), ("ann", "jon", "zed"), ("asker", "bench", "open", "parties"))
        papers = [claim(1, words=words(*seals))]
        for place, names in enumerate((JUDGES, JUDGES, "ann " + JUDGES, JUDGES)):
            self.seen(names, papers, 1, place)

    def test_who_made_a_taken_paper_is_nothing_more(self):
        self.seen(JUDGES, [claim(1, by="ann", words=words("bench"))], 1)
        self.seen("ben " + JUDGES, [claim(1, by="ann", words=words(("ben",)))], 1)

    def test_of_each_kind_but_rulings_and_decisions(self):
        seal = ("cid",)
        papers = [
            claim(1), motion(2, 1, words=words(seal)), answer(3, 1, words=words(seal)),
            paper(4, "ben", "reply", 2, words=words(seal)), evidence(5, 2, words=words(seal)),
            strike(6, 5, words=words(seal)), unseal(7, 1, ((1, 0),), words=words(seal)),
            ruling(8, 1, ((1, 0),)), appeal(9, 8, words=words(seal)),
        ]
        for number in (2, 3, 4, 5, 6, 7, 9):
            self.seen("cid " + JUDGES, papers, number)

    def test_a_party_that_is_called_as_a_seal(self):
        parties = (("ben", "asker"), ("bench", "answerer"), ("open", "asker"), ("parties", "asker"))
        case = (LONG[0], parties, BENCH, LONG[3])
        papers = [claim(1, by="ben", words=words("bench", "parties", "open", ("bench",), ("parties",), ("open",)))]
        told = {
            "ben": (False, True, True, False, False, False), "bench": (False, True, True, True, False, False),
            "parties": (False, True, True, False, True, False), "open": (False, True, True, False, False, True),
            "public": (False, False, True, False, False, False), "jon": (True,) * 6,
        }
        for person, rights in told.items():
            for place, right in enumerate(rights):
                self.assertIs(sees(case, papers, person, 1, place, 0), right, (person, place))

    def test_a_struck_papers_words(self):
        papers = [claim(1), evidence(2, 1, words=words("open", "bench")), strike(3, 2)]
        self.seen(ALL, papers, 2, 0)
        self.seen(JUDGES, papers, 2, 1)


class Unsealings(Seeing):
    papers = [claim(1, words=words("bench", ("ann",), "parties")), unseal(2, 1, ((1, 0), (1, 1)), day=1)]

    def test_opens_the_words_that_it_rests_on(self):
        self.seen(ALL, self.papers, 1, 0, day=1)
        self.seen(ALL, self.papers, 1, 1, day=1)
        self.seen(COURT, self.papers, 1, 2, day=1)

    def test_not_ahead_of_its_day(self):
        self.seen(JUDGES, self.papers, 1, 0, day=0)
        self.seen("ann " + JUDGES, self.papers, 1, 1, day=0)

    def test_by_its_filed_day(self):
        papers = [claim(1, words=words("bench")), unseal(2, 1, ((1, 0),), day=5)]
        self.seen(JUDGES, papers, 1, day=6)
        self.seen(ALL, papers, 1, day=7)

    def test_while_it_stands(self):
        papers = self.papers + [strike(3, 2, day=2), strike(4, 3, day=3), strike(5, 4, day=4)]
        for day, names in ((1, ALL), (2, JUDGES), (3, ALL), (4, JUDGES)):
            self.seen(names, papers, 1, 0, day=day)

    def test_of_two_one_is_enough(self):
        papers = self.papers + [unseal(3, 1, ((1, 0),), day=1), strike(4, 2, day=2)]
        self.seen(ALL, papers, 1, 0, day=2)
        self.seen("ann " + JUDGES, papers, 1, 1, day=2)

    def test_of_a_struck_paper(self):
        self.seen(ALL, self.papers + [strike(3, 1)], 1, 0, day=1)

    def test_a_refused_one_opens_nothing(self):
        for row in (
            unseal(2, 1, ((1, 0),), by="ann"), unseal(2, 1, ((1, 0), (1, 9))), unseal(2, 1, ()),
            unseal(2, 3, ((1, 0),)),
        ):
            self.seen(JUDGES, [self.papers[0], claim(3), row], 1, 0)

    def test_its_own_words_keep_their_seals(self):
        papers = [claim(1), unseal(2, 1, ((1, 0),), words=words("bench", "parties")), unseal(3, 2, ((2, 0),), day=1)]
        self.seen(JUDGES, papers, 2, 0, day=0)
        self.seen(ALL, papers, 2, 0, day=1)
        self.seen(COURT, papers, 2, 1, day=1)


class Decisions(Seeing):
    ahead = [claim(1), ruling(2, 1, ((1, 0),)), appeal(3, 2)]

    def decided(self, *seals, text="upheld", by="kay"):
        rows = [(text, seals[0])] + [("why", seal) for seal in seals[1:]]
        return self.ahead + [paper(4, by, "decision", 3, words=tuple(rows))]

    def test_the_first_word_is_open(self):
        for text in ("upheld", "undone", "back"):
            for seal in ("open", "parties", "bench", (), ("ben",), ("jon",)):
                self.seen(ALL, self.decided(seal, "bench", text=text), 4, 0)

    def test_the_other_words_are_not(self):
        papers = self.decided("bench", "bench", "parties", ("ben",))
        for place, names in ((1, JUDGES), (2, COURT), (3, "ben " + JUDGES)):
            self.seen(names, papers, 4, place)

    def test_of_a_struck_one_it_is_open_too(self):
        self.seen(ALL, self.decided("bench") + [strike(5, 4)], 4, 0)

    def test_of_a_refused_one_it_is_not(self):
        self.seen(JUDGES, self.decided("open", text="no"), 4, 0)
        self.seen(JUDGES, self.decided("open", by="jon"), 4, 0)
        self.seen("ann " + JUDGES, self.decided("bench", by="ann"), 4, 0)
        self.seen(JUDGES, self.decided("open") + [decision(5, 3)], 5, 0)

    def test_the_first_word_of_other_kinds_is_not(self):
        self.seen(JUDGES, [claim(1, words=words("bench"))], 1)
        self.seen(JUDGES, self.ahead[:2] + [appeal(3, 2, words=(("upheld", "bench"),))], 3)


class Rulings(Seeing):
    def test_by_its_own_seal_and_by_what_it_rests_on(self):
        ahead = [claim(1, words=words("open", "parties", "bench", ("ann",), ("ben",)))]
        rows = (
            ((0,), ALL), ((1,), COURT), ((2,), JUDGES), ((3,), "ann " + JUDGES), ((0, 1), COURT),
            ((0, 3), "ann " + JUDGES), ((3, 4), JUDGES), ((0, 1, 2, 3, 4), JUDGES),
        )
        for places, names in rows:
            row = ruling(2, 1, tuple((1, place) for place in places), words=words("open", "parties", ("ann",)))
            self.seen(names, ahead + [row], 2, 0)
            self.seen(" ".join(name for name in names.split() if name != "public"), ahead + [row], 2, 1)
            self.seen("ann " + JUDGES if "ann" in names else JUDGES, ahead + [row], 2, 2)

    def test_through_other_rulings(self):
        papers = [claim(1, words=words("open", ("ann",))), ruling(2, 1, ((1, 1),)), ruling(3, 1, ((1, 0), (2, 0)))]
        papers.append(ruling(4, 1, ((3, 0),), words=words("open", "parties", "bench")))
        for number in (2, 3, 4):
            self.seen("ann " + JUDGES, papers, number)
        self.seen("ann " + JUDGES, papers, 4, 1)
        self.seen(JUDGES, papers, 4, 2)

    def test_on_a_sealed_word_of_a_ruling(self):
        papers = [claim(1), ruling(2, 1, ((1, 0),), words=words("open", ("ben",)))]
        self.seen("ben " + JUDGES, papers + [ruling(3, 1, ((2, 1),))], 3)
        self.seen(ALL, papers + [ruling(3, 1, ((2, 0),))], 3)

    def test_what_it_is_about_does_not_matter(self):
        papers = [claim(1, words=words("open", "bench")), motion(2, 1, words=words("bench")), ruling(3, 2, ((1, 0),))]
        self.seen(ALL, papers, 3)

    def test_an_opened_word_is_seen_by_who_may_see_the_rests(self):
        papers = [claim(1, words=words(("ann",))), ruling(2, 1, ((1, 0),), words=words("bench", "bench"))]
        papers.append(unseal(3, 2, ((2, 0),)))
        self.seen("ann " + JUDGES, papers, 2, 0)
        self.seen(JUDGES, papers, 2, 1)
        self.seen(ALL, papers + [unseal(4, 1, ((1, 0),))], 2, 0)

    def test_opened_rests(self):
        papers = [claim(1, words=words("bench")), ruling(2, 1, ((1, 0),)), ruling(3, 1, ((2, 0),))]
        self.seen(JUDGES, papers, 3)
        self.seen(ALL, papers + [unseal(4, 1, ((1, 0),), day=1)], 3, day=1)
        self.seen(JUDGES, papers + [unseal(4, 1, ((1, 0),), day=1)], 3, day=0)
        self.seen(JUDGES, papers + [unseal(4, 1, ((1, 0),)), strike(5, 4)], 3)

    def test_a_ruling_that_stands_no_more(self):
        papers = [claim(1, words=words("open", ("ann",))), ruling(2, 1, ((1, 1),))]
        for more in ([strike(3, 2)], [strike(3, 1)], [appeal(3, 2), decision(4, 3)]):
            self.seen("ann " + JUDGES, papers + more, 2)

    def test_a_ruling_on_a_decision(self):
        papers = [claim(1), ruling(2, 1, ((1, 0),)), appeal(3, 2)]
        papers.append(paper(4, "kay", "decision", 3, words=(("upheld", "bench"), ("why", "bench"))))
        self.seen(ALL, papers + [ruling(5, 1, ((4, 0),))], 5)
        self.seen(JUDGES, papers + [ruling(5, 1, ((4, 1),))], 5)

    def test_other_papers_with_rests_go_by_their_seals_alone(self):
        self.seen(ALL, [claim(1), motion(2, 1, words=words("bench")), unseal(3, 2, ((2, 0),)), strike(4, 3)], 3)


class Refused(Seeing):
    def test_by_the_bench_and_by_who_made_them(self):
        seals = ("open", "parties", "bench", (), ("cid",))
        for place in range(5):
            self.seen("ben " + JUDGES, [claim(1, by="ben", words=words(*seals))], 1, place)
            self.seen(JUDGES, [claim(1, by="jon", words=words(*seals))], 1, place)
            self.seen(JUDGES, [claim(1, by="zed", words=words(*seals))], 1, place)

    def test_a_refused_ruling(self):
        papers = [claim(1, words=words("bench")), ruling(2, 1, ((1, 0),), by="ann"), ruling(3, 1, ((9, 0),))]
        self.seen("ann " + JUDGES, papers, 2)
        self.seen(JUDGES, papers, 3)

    def test_an_unsealing_opens_none_of_them(self):
        self.seen("ben " + JUDGES, [claim(1, by="ben"), unseal(2, 1, ((1, 0),))], 1)

    def test_as_the_takings_are_at_the_day(self):
        papers = [claim(1), answer(2, 1), answer(3, 1, day=1)]
        self.seen(ALL, papers, 2, day=1)
        self.seen("ben " + JUDGES, papers, 3, day=1)


class View(Asking):
    papers = [
        claim(2, by="cid", day=5, words=words("open", "bench")), claim(1, words=words("parties")),
        ruling(7, 1, ((1, 0), (2, 1)), day=8, words=()), answer(3, 9, words=words("open")),
        strike(4, 2, day=12, words=words(("dot",), "open", "open")),
    ]

    def test_no_papers(self):
        self.assertEqual(view(CASE, [], "public", 0), [])
        self.assertEqual(view(CASE, self.papers[:1], "public", 6), [])

    def test_its_rows(self):
        told = [
            (1, 0, "ann", "claim", None, "taken", [None]),
            (3, 0, "ben", "answer", 9, "about", [None]),
            (2, 7, "cid", "claim", None, "taken", ["word 0", None]),
            (7, 8, "jon", "ruling", 1, "taken", []),
            (4, 15, "jon", "strike", 2, "taken", [None, "word 1", "word 2"]),
        ]
        self.assertEqual(view(CASE, self.papers, "public", 15), told)
        self.assertEqual(view(CASE, self.papers, "public", 14), told[:4])
        self.assertEqual(view(CASE, self.papers, "public", 7), told[:3])
        self.assertEqual(view(CASE, self.papers, "public", 0), told[:2])

    def test_as_others_see_it(self):
        texts = {
            "ann": [["word 0"], [None], ["word 0", None], [], [None, "word 1", "word 2"]],
            "ben": [["word 0"], ["word 0"], ["word 0", None], [], [None, "word 1", "word 2"]],
            "dot": [["word 0"], [None], ["word 0", None], [], ["word 0", "word 1", "word 2"]],
            "kay": [["word 0"], ["word 0"], ["word 0", "word 1"], [], ["word 0", "word 1", "word 2"]],
        }
        for person, rows in texts.items():
            self.assertEqual([row[6] for row in view(CASE, self.papers, person, 15)], rows, person)

    def test_the_word_goes_by_papers_up_to_the_day(self):
        papers = [claim(1, day=3), claim(1), ruling(2, 3, ((3, 0),), day=2), claim(3)]
        self.assertEqual([row[0] for row in view(LONG, papers, "ann", 2)], [3, 2])
        self.assertEqual([row[5] for row in view(LONG, papers, "ann", 3)], ["taken"] * 3)

    def test_in_whatever_order_they_came(self):
        for row in itertools.permutations(self.papers):
            for person in ("dot", "public"):
                self.assertEqual(view(CASE, list(row), person, 15), view(CASE, self.papers, person, 15))


class HiddenWords(Asking):
    def changed(self, case, papers, person, day):
        """The papers with other texts in whatever the person may not see, and how many those are."""
        words_told = dict(taken(case, papers))
        rows, many = [], 0
        for row in papers:
            told = []
            for place, (text, seal) in enumerate(row[5]):
                # A decision that says what it may not is refused, which all are told.
                fixed = row[3] == "decision" and place == 0 and text != "no"
                if plain.next_open(case[0], row[1]) <= day and not fixed:
                    if not sees(case, papers, person, row[0], place, day):
                        text, many = text[::-1] + "!", many + 1
                told.append((text, seal))
            rows.append(row[:5] + (tuple(told),) + row[6:])
        self.assertEqual(dict(taken(case, rows)), words_told)
        return rows, many

    def test_views_do_not_hang_on_them(self):
        hidden = 0
        for seed in range(40):
            papers = Chance(seed).papers(10 + seed % 16)
            case = (CASE, LONG)[seed % 2]
            for person in PERSONS:
                for day in (9, 40):
                    others, many = self.changed(case, papers, person, day)
                    self.assertEqual(view(case, others, person, day), view(case, papers, person, day))
                    hidden += many
        self.assertGreater(hidden, 500)

    def test_what_a_hidden_word_says_shows_in_no_view(self):
        seals = words("open", "parties", "bench", ("ann",))
        other = tuple((f"another {place}", seal) for place, (_, seal) in enumerate(seals))
        papers, others = [[claim(1, words=rows), ruling(2, 1, ((1, 2), (1, 3)), words=rows)] for rows in (seals, other)]
        self.assertNotEqual(view(LONG, papers, "jon", 0), view(LONG, others, "jon", 0))
        for person in PARTIES + ("public",):
            one, two = view(LONG, papers, person, 0), view(LONG, others, person, 0)
            for row, second in zip(one, two):
                self.assertEqual(row[:6], second[:6])
                self.assertEqual([text is None for text in row[6]], [text is None for text in second[6]])
                self.assertEqual(row[6].count(None) > 0, True)

    def test_of_a_refused_decision_all_are_told_that_it_is_refused(self):
        ahead = [claim(1), ruling(2, 1, ((1, 0),)), appeal(3, 2)]
        rows = [ahead + [paper(4, "kay", "decision", 3, words=((text, "bench"),))] for text in ("no", "nay", "upheld")]
        told = [view(LONG, papers, "public", 0)[3] for papers in rows]
        self.assertEqual(told[0], (4, 0, "kay", "decision", 3, "words", [None]))
        self.assertEqual(told[1], told[0])
        self.assertEqual(told[2], (4, 0, "kay", "decision", 3, "taken", ["upheld"]))


class AsPlainly(Asking):
    def test_many_cases_at_many_days(self):
        seen = []
        for seed in range(150):
            papers = Chance(seed).papers(6 + seed % 16)
            case = (CASE, LONG)[seed % 2]
            for person in PERSONS:
                day = (4, 9, 15, 40)[seed % 4]
                told = view(case, papers, person, day)
                self.assertEqual(told, plain.view(case, papers, person, day), (seed, person, day))
                for row in told:
                    for place, text in enumerate(row[6]):
                        seen.append((row[3], row[5] == "taken", text is not None))
                        if len(seen) % 5 == 0:
                            self.assertIs(sees(case, papers, person, row[0], place, day), text is not None)
        for kind in ("claim", "ruling", "decision", "unseal", "strike"):
            for is_taken in (True, False):
                for right in (True, False):
                    if (kind, is_taken) != ("claim", False):
                        self.assertGreater(seen.count((kind, is_taken, right)), 5, (kind, is_taken, right))


class Steps(Asking):
    def test_thirty_rulings_on_the_two_ahead(self):
        for seal, right in (("open", True), ("bench", False)):
            papers = [claim(1, words=words(seal)), evidence(2, 1, words=words("open"))]
            for number in range(3, 33):
                papers.append(ruling(number, 1, ((number - 2, 0), (number - 1, 0))))
            with Soon():
                self.assertIs(sees(LONG, papers, "public", 32, 0, 0), right)
                self.assertIs(sees(LONG, papers, "jon", 32, 0, 0), True)
                texts = [row[6][0] for row in view(LONG, papers, "ann", 0)]
            self.assertEqual(texts.count(None), 0 if right else 31)

    def test_steps_grow_by_a_small_power(self):
        papers = [claim(1), evidence(2, 1)]
        for number in range(3, 89):
            papers.append(ruling(number, 1, ((number - 2, 0), (number - 1, 0))))
        for ask, given in ((view, ("ann", 0)), (sees, ("ann", 22, 0, 0))):
            few, many = [steps_of(ask, LONG, rows, *given) for rows in (papers[:22], papers)]
            self.assertLess(many, few * 4 ** 3)

    def test_ninety_papers_that_rest_on_all_ahead(self):
        papers = [claim(1, words=words(*["open"] * 8))]
        for number in range(2, 91):
            rests = tuple((one, place) for one in range(1, number) for place in range(8))
            papers.append(ruling(number, 1, rests, words=words(*["parties"] * 8)))
        with Soon():
            self.assertIs(sees(LONG, papers, "ben", 90, 7, 0), True)
            self.assertIs(sees(LONG, papers, "public", 90, 7, 0), False)
            self.assertEqual([row[6][0] for row in view(LONG, papers, "dot", 0)], ["word 0"] * 90)


class Refusals(Asking):
    papers = [claim(1, words=words("open", "open")), motion(2, 1, day=3), claim(4, by="ben")]

    def test_no_case(self):
        for thing in NO_CASES:
            self.refused(NoCase, view, thing, self.papers, "ann", 0)
            self.refused(NoCase, sees, thing, self.papers, "ann", 1, 0, 0)
            self.refused(NoCase, view, thing, None, None, None)
            self.refused(NoCase, sees, thing, None, None, None, None, None)

    def test_no_papers(self):
        for thing in NO_PAPERS:
            self.refused(NoPaper, view, LONG, thing, "ann", 0)
            self.refused(NoPaper, sees, LONG, thing, "ann", 1, 0, 0)
            self.refused(NoPaper, view, LONG, thing, None, None)
            self.refused(NoPaper, sees, LONG, thing, None, None, None, None)

    def test_no_person(self):
        texts = ("zed", "Ann", "", "an", "asker", "bench", "parties", "open")
        for thing in ANYTHING + texts + (("ann",), ["ann"], b"ann", 1):
            self.refused(NoPerson, view, LONG, self.papers, thing, 0)
            self.refused(NoPerson, sees, LONG, self.papers, thing, 1, 0, 0)
            self.refused(NoPerson, view, LONG, self.papers, thing, -1)
            self.refused(NoPerson, sees, LONG, self.papers, thing, 99, -1, None)

    def test_who_makes_a_paper_is_no_person_by_that(self):
        self.refused(NoPerson, view, LONG, [claim(1, by="zed")], "zed", 0)

    def test_all_persons(self):
        for person in PERSONS:
            self.assertEqual(len(view(LONG, self.papers, person, 0)), 2)

    def test_no_day(self):
        for thing in NO_DAYS:
            self.refused(NoDay, view, LONG, self.papers, "ann", thing)
            self.refused(NoDay, sees, LONG, self.papers, "ann", 1, 0, thing)
            self.refused(NoDay, sees, LONG, self.papers, "ann", 99, True, thing)

    def test_no_word(self):
        for number in (2, 3, 0, -1, 99, "1", 1.0, True, (1,)) + ANYTHING:
            self.refused(NoWord, sees, LONG, self.papers, "ann", number, 0, 0)
        for place in (2, 3, -1, -2, "0", 0.0, False, True, (0,)) + ANYTHING:
            self.refused(NoWord, sees, LONG, self.papers, "ann", 1, place, 0)

    def test_no_word_of_a_paper_behind_the_day(self):
        self.refused(NoWord, sees, LONG, self.papers, "ann", 2, 0, 2)
        self.assertIs(sees(LONG, self.papers, "ann", 2, 0, 3), True)
        self.refused(NoWord, sees, LONG, [claim(1, day=5)], "ann", 1, 0, 6)

    def test_no_word_of_a_refused_paper_beyond_its_last(self):
        self.assertIs(sees(LONG, self.papers, "ann", 4, 0, 0), False)
        self.refused(NoWord, sees, LONG, self.papers, "ann", 4, 1, 0)

    def test_no_word_of_the_second_of_one_number(self):
        papers = [claim(1, words=()), claim(1, words=words("open"))]
        self.refused(NoWord, sees, LONG, papers, "ann", 1, 0, 0)

    def test_names_of_arguments(self):
        self.assertIs(sees(day=0, place=1, number=1, person="public", papers=self.papers, case=LONG), True)
        told = view(day=0, person="public", papers=self.papers, case=LONG)
        self.assertEqual(told, view(LONG, self.papers, "public", 0))


class Keeping(Asking):
    def test_what_is_told_is_the_askers_own(self):
        papers = [claim(1, words=words("open", "bench")), claim(2)]
        one, two = view(LONG, papers, "public", 0), view(LONG, papers, "public", 0)
        self.assertEqual(one, two)
        self.assertIsNot(one, two)
        for row, other in zip(one, two):
            self.assertIs(type(row), tuple)
            self.assertIs(type(row[6]), list)
            self.assertIsNot(row[6], other[6])
            row[6].clear()
        one.clear()
        self.assertEqual(view(LONG, papers, "public", 0), two)
        self.assertEqual(papers, [claim(1, words=words("open", "bench")), claim(2)])

    def test_no_two_lists_told_at_once_are_one(self):
        seal = words("bench")
        papers = [claim(1, words=()), claim(2, words=()), claim(3, words=seal), claim(4, words=seal)]
        texts = [row[6] for row in view(LONG, papers, "public", 0)]
        self.assertEqual(texts, [[], [], [None], [None]])
        texts[0].append("x")
        texts[2].append("x")
        self.assertEqual(texts, [["x"], [], [None, "x"], [None]])

    def test_a_list_that_is_changed_later_changes_nothing_told(self):
        papers = [claim(1), claim(2)]
        told = view(LONG, papers, "public", 0)
        papers.clear()
        self.assertEqual([row[0] for row in told], [1, 2])
        self.assertEqual(view(LONG, papers, "public", 0), [])


if __name__ == "__main__":
    unittest.main()
