"""Point 26: papers, cases and dockets written, and read back."""

import random
import re
import unittest

from heardhouse.errors import NoCase, NoPaper, NoText
from heardhouse.papers import docket, is_case, is_paper
from heardhouse.texts import read_case, read_docket, read_paper, show_case, show_docket, show_paper
from tests.asking import BUT_NO_LIST, NO_CASES, NO_PAPERS, Asking, Soon
from tests.chance import Chance
from tests.house import ANYTHING, CASE, LONG, claim, decision, evidence, motion, paper, ruling, unseal

SIGNS = "".join(chr(sign) for sign in range(ord(" "), ord("~") + 1) if chr(sign) != "%")
TRICKS = ('"', '""', " ", '" ', ' "', ' open"', '"open"', " [1.0]", "[", "]", " >2", "#1 0 ann claim", "(a+b)", ";", ",")

# The whole grammar, as one would write it down; what is not to be said so is asked of is_paper and is_case.
NUMBER = r"(?:0|[1-9][0-9]{0,11})"
NAME = r"[a-z]{1,8}"
WORD = rf'(?:open|parties|bench|\((?:{NAME}(?:\+{NAME})*)?\))"(?:[ !#-$&-~]|"")*"'
PAPER = re.compile(
    rf"#{NUMBER} {NUMBER} {NAME} [a-z]+(?: >{NUMBER})?(?: {WORD})*(?: \[{NUMBER}\.{NUMBER}(?:,{NUMBER}\.{NUMBER})*\])?"
)
TERM = rf"{NUMBER} (?:days|open)"
PARTY = rf"{NAME}=(?:asker|answerer)"
GRAMMAR_OF_CASES = re.compile(
    rf"(?:{NUMBER}(?:,{NUMBER})*)?;{PARTY}(?:,{PARTY})+;{NAME}(?:,{NAME})*;{TERM}(?:,{TERM}){{3}}"
)

CASE_TEXT = (
    "9,10,14;ann=asker,ben=answerer,cid=asker,dot=answerer;jon,kay,lou;10 days,3 open,5 days,2 open"
)
RULING = paper(
    7, "jon", "ruling", 1, 30, (("so be it", "open"), ('"no"', ("ann", "ben")), ("", "bench"), (" ", ())), ((1, 0), (2, 3))
)
RULING_TEXT = '#7 30 jon ruling >1 open"so be it" (ann+ben)"""no""" bench"" ()" " [1.0,2.3]'


class Writing(Asking):
    def test_papers(self):
        rows = (
            (claim(1), '#1 0 ann claim open"said"'),
            (claim(12, words=()), "#12 0 ann claim"),
            (motion(3, 1, day=400, words=()), "#3 400 ann motion >1"),
            (evidence(4, 33, words=(("a", "parties"), ("b", ("cid",)))), '#4 0 ann evidence >33 parties"a" (cid)"b"'),
            (unseal(5, 1, ((1, 0),), words=()), "#5 0 jon unseal >1 [1.0]"),
            (decision(6, 4, "back"), '#6 0 kay decision >4 open"back"'),
            (RULING, RULING_TEXT),
            (claim(1, words=(('"', "open"),)), '#1 0 ann claim open""""'),
            (claim(1, words=(('""', "open"), ('a"b', "open"))), '#1 0 ann claim open"""""" open"a""b"'),
            (claim(1, words=((" [1.0]", "open"),)), '#1 0 ann claim open" [1.0]"'),
            (claim(1, words=((' >2 open"x"', ()),)), '#1 0 ann claim ()" >2 open""x"""'),
            (paper(999999999999, "abcdefgh", "claim", None, 999999999999, ()), "#999999999999 999999999999 abcdefgh claim"),
        )
        for row, text in rows:
            self.assertEqual(show_paper(row), text)
            self.assertEqual(read_paper(text), row)

    def test_papers_that_would_be_refused_are_written_too(self):
        row = paper(2, "zed", "decision", 9, 5, (("no", "bench"),))
        self.assertEqual(show_paper(row), '#2 5 zed decision >9 bench"no"')
        self.assertEqual(read_paper(show_paper(row)), row)

    def test_cases(self):
        self.assertEqual(show_case(CASE), CASE_TEXT)
        self.assertEqual(read_case(CASE_TEXT), CASE)
        least = ((), (("a", "asker"), ("b", "answerer")), ("c",), ((0, "days"),) * 4)
        text = ";a=asker,b=answerer;c;0 days,0 days,0 days,0 days"
        self.assertEqual(show_case(least), text)
        self.assertEqual(read_case(text), least)
        self.assertEqual(read_case("0;" + text[1:]), ((0,),) + least[1:])

    def test_dockets(self):
        papers = [motion(2, 1, day=3, words=()), claim(1, words=()), claim(2, words=()), claim(3, words=(), by="zed")]
        told = ["#1 0 ann claim", "#3 0 zed claim", "#2 3 ann motion >1"]
        self.assertEqual(show_docket(CASE, papers), told)
        self.assertEqual(read_docket(told), [papers[1], papers[3], papers[0]])
        self.assertEqual(show_docket(CASE, []), [])
        self.assertEqual(read_docket([]), [])

    def test_a_docket_by_filed_days(self):
        papers = [claim(3, day=7, words=()), claim(2, day=6, words=()), claim(1, day=9, words=())]
        self.assertEqual(show_docket(CASE, papers), ["#2 6 ann claim", "#3 7 ann claim", "#1 9 ann claim"])

    def test_a_read_docket_keeps_the_texts_order(self):
        texts = ["#9 5 ann claim", "#1 0 ann claim", "#9 5 ann claim", "#9 0 ben claim", '#2 7 zed reply >9 open"x"']
        told = read_docket(texts)
        self.assertEqual([row[:4] for row in told], [
            (9, 5, "ann", "claim"), (1, 0, "ann", "claim"), (9, 5, "ann", "claim"), (9, 0, "ben", "claim"),
            (2, 7, "zed", "reply"),
        ])

    def test_kinds_of_what_is_told(self):
        told = read_paper(RULING_TEXT)
        self.assertIs(is_paper(told), True)
        self.assertEqual([type(part) for part in told], [int, int, str, str, int, tuple, tuple])
        self.assertIs(is_case(read_case(CASE_TEXT)), True)
        self.assertIs(type(show_docket(CASE, [claim(1)])), list)
        self.assertIs(type(read_docket([RULING_TEXT])), list)
        self.assertIs(type(show_paper(RULING)), str)

    def test_names_of_arguments(self):
        self.assertEqual(read_paper(text=show_paper(paper=RULING)), RULING)
        self.assertEqual(read_case(text=show_case(case=CASE)), CASE)
        self.assertEqual(read_docket(texts=show_docket(papers=[RULING], case=CASE)), [RULING])

    def test_what_is_told_is_the_askers_own(self):
        papers, texts = [claim(1), RULING], [RULING_TEXT, "#1 0 ann claim"]
        for ask, given in ((show_docket, (CASE, papers)), (read_docket, (texts,))):
            one, two = ask(*given), ask(*given)
            self.assertIsNot(one, given[-1])
            one.clear()
            self.assertEqual(ask(*given), two)
        self.assertEqual((papers, texts), ([claim(1), RULING], [RULING_TEXT, "#1 0 ann claim"]))


class ReadBack(Asking):
    def test_many_papers(self):
        for seed in range(40):
            papers = Chance(seed).papers(30)
            ordered = docket(CASE, papers)
            texts = show_docket(CASE, papers)
            self.assertEqual(texts, [show_paper(row) for row in ordered])
            self.assertEqual(read_docket(texts), ordered)
            for row, text in zip(ordered, texts):
                self.assertRegex(text, PAPER)
                self.assertEqual(read_paper(text), row)

    def test_each_sign(self):
        for sign in SIGNS:
            row = claim(1, words=((sign, "open"), (sign * 3, "bench"), (f"a{sign}b", ("ann",))))
            self.assertEqual(read_paper(show_paper(row)), row)

    def test_tricky_texts(self):
        chance = random.Random(26)
        seals = ("open", "parties", "bench", (), ("a",), ("ann", "ben", "zed"))
        for _ in range(800):
            words = []
            for _ in range(chance.randint(0, 4)):
                text = "".join(chance.choice(TRICKS + ("a",)) for _ in range(chance.randint(0, 5)))
                words.append((text, chance.choice(seals)))
            rests = ((1, 0), (8, 2))[:chance.randint(0, 2)]
            row = paper(7, "jon", "ruling", chance.randint(1, 6), chance.randint(0, 99), tuple(words), rests)
            self.assertEqual(read_paper(show_paper(row)), row)

    def test_unlike_papers_have_unlike_texts(self):
        papers = [row for seed in range(20) for row in Chance(seed).papers(20)]
        texts = [show_paper(row) for row in papers]
        self.assertEqual(len(set(texts)), len(set(papers)))

    def test_cases(self):
        chance = random.Random(8)
        for _ in range(200):
            days = tuple(sorted(chance.sample(range(30000), chance.randint(0, 40))))
            names = sorted(chance.sample([one + two for one in "abcdef" for two in "xyz"], chance.randint(3, 12)))
            bench = tuple(names[::3])
            parties = [(name, chance.choice(("asker", "answerer"))) for name in names if name not in bench]
            if len({side for _, side in parties}) == 2:
                terms = tuple((chance.randint(0, 400), chance.choice(("days", "open"))) for _ in range(4))
                case = (days, tuple(parties), bench, terms)
                self.assertEqual(read_case(show_case(case)), case)

    def test_great_ones(self):
        row = claim(1, words=((('"' * 3000), "parties"), ((SIGNS * 33)[:3000], ("ann", "ben"))) * 4)
        full = ruling(90, 1, tuple((number, place) for number in range(1, 90) for place in range(8)), words=row[5])
        case = (tuple(range(30000)),) + CASE[1:]
        with Soon():
            for one in (row, full):
                self.assertEqual(read_paper(show_paper(one)), one)
            self.assertEqual(read_docket(show_docket(LONG, [full, row])), [row, full])
            self.assertEqual(read_case(show_case(case)), case)


NO_PAPER_TEXTS = (
    "", " ", "#", "#1", "#1 0", "#1 0 ann", "# 0 ann claim", "1 0 ann claim", "##1 0 ann claim", "#1 0 ann claim ",
    " #1 0 ann claim", "#1  0 ann claim", "#1 0  ann claim", "#1 0 ann  claim", "#1 0 ann claim\n", "\n#1 0 ann claim",
    "#1\t0 ann claim", "#01 0 ann claim", "#1 00 ann claim", "#1 01 ann claim", "#0 0 ann claim", "#-1 0 ann claim",
    "#+1 0 ann claim", "#1 -1 ann claim", "#1 +1 ann claim", "#1 -0 ann claim", "#1.0 0 ann claim", "#1_0 0 ann claim",
    "#1000000000000 0 ann claim", "#1 1000000000000 ann claim", "#0000000000001 0 ann claim", "#\u0661 0 ann claim",
    "#\u00b2 0 ann claim", "#1 \uff10 ann claim", "#1 0 Ann claim", "#1 0 public claim", "#1 0 abcdefghi claim",
    "#1 0 a1 claim", "#1 0  claim", "#1 0 ann Claim", "#1 0 ann claims", "#1 0 ann ", "#1 0 ann claim >2",
    "#1 0 ann claim >", "#1 0 ann motion", "#1 0 ann motion >", "#1 0 ann motion >1", "#1 0 ann motion >0",
    "#1 0 ann motion >02", "#1 0 ann motion > 2", "#1 0 ann motion 2", "#1 0 ann motion >2 >3", "#1 0 ann motion  >2",
    "#1 0 ann motion>2", "#1 0 ann motion >2 ", "#1 0 ann motion >1000000000000", '#1 0 ann motion open"a" >2',
    '#1 0 ann claim open', '#1 0 ann claim open"', '#1 0 ann claim open"a', '#1 0 ann claim opena"', '#1 0 ann claim "a"',
    '#1 0 ann claim open"a""', '#1 0 ann claim open"a"b"', '#1 0 ann claim open"""', '#1 0 ann claim open"a"b',
    '#1 0 ann claim open "a"', '#1 0 ann claim  open"a"', '#1 0 ann claim open"a"  open"b"', '#1 0 ann claim open"a" ',
    '#1 0 ann claim open"a"open"b"', '#1 0 ann claimopen"a"', '#1 0 ann claim Open"a"', '#1 0 ann claim party"a"',
    "#1 0 ann claim open'a'", '#1 0 ann claim ann"a"', '#1 0 ann claim (ann"a"', '#1 0 ann claim ann)"a"',
    '#1 0 ann claim (ben+ann)"a"', '#1 0 ann claim (ann+ann)"a"', '#1 0 ann claim (ann,ben)"a"',
    '#1 0 ann claim (ann + ben)"a"', '#1 0 ann claim (+)"a"', '#1 0 ann claim (ann+)"a"', '#1 0 ann claim (+ann)"a"',
    '#1 0 ann claim ( )"a"', '#1 0 ann claim (open)+"a"', '#1 0 ann claim (public)"a"', '#1 0 ann claim (Ann)"a"',
    '#1 0 ann claim ("a"', '#1 0 ann claim )"a"', '#1 0 ann claim ()()"a"', '#1 0 ann claim ((ann))"a"',
    '#1 0 ann claim ()', '#1 0 ann claim open"a\n"', '#1 0 ann claim open"\u00e9"', '#1 0 ann claim open"a%"',
    '#1 0 ann claim open"\x7f"', '#1 0 ann claim open"\ud800"', "#1 0 ann claim [2.0]", "#1 0 jon ruling >2 []",
    "#1 0 jon ruling >2 [", "#1 0 jon ruling >2 ]", "#1 0 jon ruling >2 [2]", "#1 0 jon ruling >2 [2.]",
    "#1 0 jon ruling >2 [.0]", "#1 0 jon ruling >2 [2.0", "#1 0 jon ruling >2 2.0]", "#1 0 jon ruling >2 [2.0,]",
    "#1 0 jon ruling >2 [,2.0]", "#1 0 jon ruling >2 [2.0, 3.0]", "#1 0 jon ruling >2 [3.0,2.0]",
    "#1 0 jon ruling >2 [2.0,2.0]", "#1 0 jon ruling >2 [2.1,2.0]", "#1 0 jon ruling >2 [02.0]",
    "#1 0 jon ruling >2 [2.00]", "#1 0 jon ruling >2 [0.0]", "#1 0 jon ruling >2 [2.0.0]", "#1 0 jon ruling >2 [2.-1]",
    "#1 0 jon ruling >2  [2.0]", "#1 0 jon ruling >2[2.0]", "#1 0 jon ruling >2 [2.0] ", "#1 0 jon ruling >2 [2.0] [3.0]",
    "#1 0 jon ruling >2 [2.1000000000000]", "#1 0 jon ruling >2 [1000000000000.0]", "#1 0 jon ruling [2.0] >2",
    '#1 0 jon ruling >2 [2.0] open"a"', '#1 0 jon ruling >2 open"a"[2.0]', '#1 0 ann motion >2 open"a" [2.0]',
    "#1 0 ann claim\n#2 0 ann claim", "#1 0 ann claim #2 0 ann claim",
)
NO_CASE_TEXTS = (
    "", ";;;", ";", CASE_TEXT + ";", ";" + CASE_TEXT, CASE_TEXT + " ", " " + CASE_TEXT, CASE_TEXT + "\n",
    CASE_TEXT.replace(";", "; "), CASE_TEXT.replace(";", " ;"), CASE_TEXT.replace(",", ", "), CASE_TEXT.replace(";", ","),
    CASE_TEXT.replace("9,10,14", "9,10,14,"), CASE_TEXT.replace("9,10,14", ",9,10,14"),
    CASE_TEXT.replace("9,10,14", "9,,14"), CASE_TEXT.replace("9,10,14", "10,9,14"), CASE_TEXT.replace("9,10,14", "9,9"),
    CASE_TEXT.replace("9,10,14", "09,10,14"), CASE_TEXT.replace("9,10,14", "-9"), CASE_TEXT.replace("9,10,14", "+9"),
    CASE_TEXT.replace("9,10,14", "1000000000000"), CASE_TEXT.replace("9,10,14", "a"), CASE_TEXT.replace("9,10,14", " "),
    CASE_TEXT.replace("9,10,14", "9 10 14"), CASE_TEXT.replace("9,10,14", "\u0669"), CASE_TEXT.replace("9,10,14", "()"),
    CASE_TEXT.replace("=", ":"), CASE_TEXT.replace("ann=asker", "ann"), CASE_TEXT.replace("ann=asker", "ann="),
    CASE_TEXT.replace("ann=asker", "=asker"), CASE_TEXT.replace("ann=asker", "ann=asker=asker"),
    CASE_TEXT.replace("ann=asker", "ann = asker"), CASE_TEXT.replace("ann=asker", "Ann=asker"),
    CASE_TEXT.replace("ann=asker", "ann=Asker"), CASE_TEXT.replace("ann=asker", "ann=bench"),
    CASE_TEXT.replace("ann=asker", "dot=asker"), CASE_TEXT.replace("ann=asker", "ben=asker"),
    CASE_TEXT.replace("ann=asker,", ",ann=asker,"), CASE_TEXT.replace("=answerer", "=asker"),
    CASE_TEXT.replace("=asker", "=answerer"), CASE_TEXT.replace("ann=asker", "jon=asker"),
    CASE_TEXT.replace("jon,kay,lou", ""), CASE_TEXT.replace("jon,kay,lou", "kay,jon"),
    CASE_TEXT.replace("jon,kay,lou", "jon,jon"), CASE_TEXT.replace("jon,kay,lou", "jon,"),
    CASE_TEXT.replace("jon,kay,lou", "public"), CASE_TEXT.replace("jon,kay,lou", "ann"),
    CASE_TEXT.replace("jon,kay,lou", "jon+kay"), CASE_TEXT.replace("jon,kay,lou", "Jon"),
    CASE_TEXT.replace("10 days", "10"), CASE_TEXT.replace("10 days", "days"), CASE_TEXT.replace("10 days", "010 days"),
    CASE_TEXT.replace("10 days", "10  days"), CASE_TEXT.replace("10 days", "10days"), CASE_TEXT.replace("10 days", "10 day"),
    CASE_TEXT.replace("10 days", "10 Days"), CASE_TEXT.replace("10 days", "-1 days"), CASE_TEXT.replace("10 days,", ""),
    CASE_TEXT.replace("10 days", "1000000000000 days"), CASE_TEXT.replace("10 days", "1 days,1 days"),
    CASE_TEXT.replace("10 days", "10 days "), CASE_TEXT + ",", RULING_TEXT,
)


class NearlyOne(Asking):
    def test_papers(self):
        for text in NO_PAPER_TEXTS + (CASE_TEXT,):
            self.refused(NoText, read_paper, text)
            self.refused(NoText, read_docket, [text])
            self.refused(NoText, read_docket, [RULING_TEXT, text])

    def test_cases(self):
        for text in NO_CASE_TEXTS:
            self.refused(NoText, read_case, text)

    def test_other_kinds(self):
        for thing in ANYTHING + (1, RULING, CASE, RULING_TEXT.encode(), [RULING_TEXT], (RULING_TEXT,), {RULING_TEXT: 1}):
            self.refused(NoText, read_paper, thing)
            self.refused(NoText, read_case, thing)
        for thing in BUT_NO_LIST + ((), (RULING_TEXT,), RULING_TEXT, {RULING_TEXT: 1}, [[RULING_TEXT]], [RULING], [None]):
            self.refused(NoText, read_docket, thing)

    def test_twelve_figures_are_enough(self):
        most = "9" * 12
        self.assertEqual(read_paper(f"#{most} {most} ann claim")[:2], (int(most), int(most)))
        self.assertEqual(read_paper(f"#1 0 jon ruling >{most} [{most}.{most}]")[6], ((int(most), int(most)),))
        self.assertEqual(read_case(CASE_TEXT.replace("14", most).replace("10 days", most + " days"))[3][0], (int(most), "days"))
        self.refused(NoText, read_paper, "#" + "9" * 5000 + " 0 ann claim")
        self.refused(NoText, read_case, "9" * 5000 + CASE_TEXT[6:])

    def changed(self, chance, text):
        """A text that is a little otherwise."""
        place = chance.randint(0, len(text))
        more = chance.choice(tuple('"" 0#>[].,+()=;') + TRICKS + ("ann", "open", "12"))
        kind = chance.randint(0, 3)
        if kind == 0:
            return text[:place] + more + text[place:]
        if kind == 1:
            return text[:place] + text[place + 1:]
        if kind == 2:
            return text[:place] + more + text[place + 1:]
        other = chance.randint(0, len(text))
        return text[:min(place, other)] + text[max(place, other):]

    def read_or_none(self, read, text):
        try:
            return read(text)
        except NoText:
            return None

    def test_changed_papers_as_the_grammar_has_it(self):
        chance = random.Random(27)
        texts = [show_paper(row) for seed in range(6) for row in Chance(seed).papers(20)] + [RULING_TEXT] * 60
        good = bad = 0
        for _ in range(40):
            for text in texts:
                for _ in range(chance.randint(1, 2)):
                    text = self.changed(chance, text)
                told = self.read_or_none(read_paper, text)
                if told is None:
                    bad += 1
                    if PAPER.fullmatch(text):
                        self.assertFalse(self.makes_a_paper(text), text)
                else:
                    good += 1
                    self.assertTrue(PAPER.fullmatch(text), text)
                    self.assertEqual(show_paper(told), text)
        self.assertGreater(good, 400)
        self.assertGreater(bad, 1000)

    def makes_a_paper(self, text):
        """Whether a text of the paper's grammar says what a paper may be."""
        head = re.match(rf"#({NUMBER}) ({NUMBER}) ({NAME}) ([a-z]+)(?: >({NUMBER}))?", text)
        number, day, by, kind, about = head.groups()
        rest = text[head.end():]
        words = []
        while match := re.match(rf" ({WORD})", rest):
            seal, said = match.group(1).split('"', 1)
            if seal.startswith("("):
                seal = tuple(re.findall("[a-z]+", seal))
            words.append((said[:-1].replace('""', '"'), seal))
            rest = rest[match.end():]
        rests = tuple((int(one), int(two)) for one, two in re.findall(rf"({NUMBER})\.({NUMBER})", rest))
        return is_paper((int(number), int(day), by, kind, about and int(about), tuple(words), rests))

    def test_changed_cases_as_the_grammar_has_it(self):
        chance = random.Random(28)
        good = bad = 0
        for _ in range(4000):
            text = self.changed(chance, CASE_TEXT)
            told = self.read_or_none(read_case, text)
            if told is None:
                bad += 1
                if GRAMMAR_OF_CASES.fullmatch(text):
                    self.assertFalse(self.makes_a_case(text), text)
            else:
                good += 1
                self.assertTrue(GRAMMAR_OF_CASES.fullmatch(text), text)
                self.assertEqual(show_case(told), text)
        self.assertGreater(good, 100)
        self.assertGreater(bad, 1000)

    def makes_a_case(self, text):
        """Whether a text of the case's grammar says what a case may be."""
        days, parties, bench, terms = text.split(";")
        return is_case((
            tuple(int(day) for day in re.findall("[0-9]+", days)),
            tuple(tuple(row.split("=")) for row in parties.split(",")), tuple(bench.split(",")),
            tuple((int(row.split(" ")[0]), row.split(" ")[1]) for row in terms.split(",")),
        ))


class Refusals(Asking):
    def test_no_case(self):
        for thing in NO_CASES:
            self.refused(NoCase, show_docket, thing, [claim(1)])
            self.refused(NoCase, show_docket, thing, None)

    def test_no_paper(self):
        for thing in NO_PAPERS:
            self.refused(NoPaper, show_docket, CASE, thing)

    def test_what_can_not_be_written(self):
        for thing in ANYTHING + ((), [RULING], RULING_TEXT, list(RULING)):
            self.refused(NoPaper, show_paper, thing)
        for thing in NO_CASES + (CASE_TEXT,):
            self.refused(NoCase, show_case, thing)


if __name__ == "__main__":
    unittest.main()
