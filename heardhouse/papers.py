"""Cases and papers: their forms, the docket, and which papers are taken."""

from heardhouse.days import first_open, is_calendar, is_day, is_term, term_end
from heardhouse.errors import NoCase, NoPaper
from heardhouse.kinds import are_names, is_name, is_rising, is_row, is_whole

# The places of a paper's parts.
NUMBER = 0
DAY = 1
BY = 2
KIND = 3
ABOUT = 4
WORDS = 5
RESTS = 6
PARTS = 7

KINDS = (
    "claim", "motion", "answer", "reply", "evidence",
    "ruling", "strike", "unseal", "appeal", "decision",
)
RESTING = ("ruling", "unseal")
OF_THE_BENCH = ("ruling", "strike", "unseal", "decision")
SIDES = ("asker", "answerer")
SIDE_OF = {"claim": "asker", "answer": "answerer"}
SEALS = ("open", "parties", "bench")

# Of which kinds the papers are that a paper may be about; others may be about any.
SUBJECTS = {
    "answer": ("claim",),
    "motion": ("claim",),
    "reply": ("motion",),
    "evidence": ("claim", "motion"),
    "ruling": ("claim", "motion"),
    "appeal": ("ruling",),
    "decision": ("appeal",),
}
# Which of a case's terms a kind of paper has to keep.
TERM_OF = {"answer": 0, "reply": 1, "appeal": 2}

TAKEN = "taken"
BACK = ("back",)
OVERTURNED = ("undone", "back")
VERDICTS = ("upheld", "undone", "back")


def is_case(thing):
    """Tell of anything whether it is a case."""
    if not is_row(thing, 4):
        return False
    calendar, parties, bench, terms = thing
    if not is_calendar(calendar) or not are_parties(parties) or not are_names(bench):
        return False
    shared = [name for name, _ in parties if name in bench]
    return len(bench) > 0 and not shared and are_terms(terms)


def are_parties(thing):
    """Tell whether a thing is a case's parties, some of each side."""
    if not isinstance(thing, tuple) or not all([is_party(party) for party in thing]):
        return False
    sides = [side for _, side in thing]
    return all([side in sides for side in SIDES]) and is_rising([name for name, _ in thing])


def is_party(thing):
    """Tell whether a thing is a name and its side."""
    if not is_row(thing, 2):
        return False
    name, side = thing
    return is_name(name) and isinstance(side, str) and side in SIDES


def are_terms(thing):
    """Tell whether a thing is a case's four terms."""
    return is_row(thing, 4) and all([is_term(term) for term in thing])


def is_paper(thing):
    """Tell of anything whether it is a paper."""
    if not is_row(thing, PARTS):
        return False
    number, day, by, kind, about, words, rests = thing
    if not is_whole(number, 1) or not is_day(day) or not is_name(by) or not is_kind(kind):
        return False
    return is_about(number, kind, about) and are_words(words) and are_rests(kind, rests)


def is_kind(thing):
    """Tell whether a thing is a kind of paper."""
    return isinstance(thing, str) and thing in KINDS


def is_about(number, kind, thing):
    """Tell whether a paper of this number and kind may be about a thing."""
    if kind == "claim":
        return thing is None
    return is_whole(thing, 1) and thing != number


def are_words(thing):
    """Tell whether a thing is a tuple of words."""
    return isinstance(thing, tuple) and all([is_word(word) for word in thing])


def is_word(thing):
    """Tell whether a thing is a word."""
    if not is_row(thing, 2):
        return False
    text, seal = thing
    return is_text(text) and is_seal(seal)


def is_text(thing):
    """Tell whether a thing is a text of the signs that a word may have."""
    if not isinstance(thing, str) or not thing.isascii() or not thing.isprintable():
        return False
    # Of all signs from the blank to the tilde, the one of number 37 is barred.
    return thing == thing.translate({37: None})


def is_seal(thing):
    """Tell whether a thing is a word's seal."""
    if isinstance(thing, str):
        return thing in SEALS
    return are_names(thing)


def are_rests(kind, thing):
    """Tell whether a thing is what a paper of this kind may rest on."""
    if not isinstance(thing, tuple) or not all([is_rest(rest) for rest in thing]):
        return False
    return is_rising(thing) and (kind in RESTING or len(thing) == 0)


def is_rest(thing):
    """Tell whether a thing is a paper's number and a word's place."""
    if not is_row(thing, 2):
        return False
    number, place = thing
    return is_whole(number, 1) and is_whole(place, 0)


def check_case(case):
    """Refuse what is no case."""
    if not is_case(case):
        raise NoCase()


def check_paper(paper):
    """Refuse what is no paper."""
    if not is_paper(paper):
        raise NoPaper()


def check_papers(papers):
    """Refuse what is no list of papers."""
    if not isinstance(papers, list) or not all([is_paper(paper) for paper in papers]):
        raise NoPaper()


def filed(case, paper):
    """Tell a paper's filed day."""
    check_case(case)
    check_paper(paper)
    return filed_day(case, paper)


def docket(case, papers):
    """Tell the papers by filed days, of one day by numbers."""
    check_case(case)
    check_papers(papers)
    return in_order(case, papers)


def taken(case, papers):
    """Tell each paper's number and its word, in the docket's order."""
    check_case(case)
    check_papers(papers)
    rows = takings(case, in_order(case, papers))
    return [(paper[NUMBER], word) for paper, word in rows]


def filed_day(case, paper):
    """Tell the filed day, of what is known to be good."""
    return first_open(case[0], paper[DAY])


def in_order(case, papers):
    """Tell the docket, of what is known to be good."""
    seen = set()
    rows = []
    for paper in papers:
        if paper[NUMBER] not in seen:
            seen.add(paper[NUMBER])
            rows.append((filed_day(case, paper), paper[NUMBER], paper))
    return [row[2] for row in sorted(rows)]


def takings(case, ordered):
    """Tell each paper of a docket and its word."""
    ahead = []
    for paper in ordered:
        word = taking(case, ahead, paper)
        ahead.append((paper, word))
    return ahead


def takings_up_to(case, papers, day):
    """Tell each paper filed up to a day and its word, in the docket's order."""
    return takings(case, [row for row in in_order(case, papers) if filed_day(case, row) <= day])


def taking(case, ahead, paper):
    """Tell the word of one paper by the papers ahead of it and their words."""
    there = taken_ones(ahead)
    if has_wrong_maker(case, paper):
        return "maker"
    if is_about_none(there, paper):
        return "about"
    if is_of_own(there, paper):
        return "own"
    if is_late(case, there, paper):
        return "late"
    if is_twice(there, paper):
        return "twice"
    if has_wrong_rests(there, paper):
        return "rests"
    if has_wrong_words(paper):
        return "words"
    return TAKEN


def taken_ones(rows):
    """Tell the taken papers by their numbers, in the order of the rows."""
    return {row[NUMBER]: row for row, word in rows if word == TAKEN}


def has_wrong_maker(case, paper):
    """Tell whether a paper is not for its maker to make."""
    _, parties, bench, _ = case
    by, kind = paper[BY], paper[KIND]
    if kind in OF_THE_BENCH:
        return by not in bench
    sides = {name: side for name, side in parties}
    if by not in sides:
        return True
    return kind in SIDE_OF and sides[by] != SIDE_OF[kind]


def is_about_none(there, paper):
    """Tell whether a paper is about none of the papers that it may be about."""
    if paper[KIND] == "claim":
        return False
    if paper[ABOUT] not in there:
        return True
    return there[paper[ABOUT]][KIND] not in SUBJECTS.get(paper[KIND], KINDS)


def is_of_own(there, paper):
    """Tell whether a paper's maker would judge or answer what is their own."""
    by, kind, about = paper[BY], paper[KIND], paper[ABOUT]
    if kind == "reply":
        return there[about][BY] == by
    if kind == "decision":
        ruling = there.get(there[about][ABOUT])
        return ruling is not None and ruling[BY] == by
    if kind == "ruling":
        back = overturned(there, BACK)
        made = [row for row in there.values() if row[BY] == by and row[ABOUT] == about]
        return any([row[NUMBER] in back for row in made])
    return False


def is_late(case, there, paper):
    """Tell whether a paper is behind the term that its kind has to keep."""
    if paper[KIND] not in TERM_OF:
        return False
    term = case[3][TERM_OF[paper[KIND]]]
    begun = filed_day(case, there[paper[ABOUT]])
    return filed_day(case, paper) > term_end(case[0], begun, term)


def is_twice(there, paper):
    """Tell whether a paper of which one is enough has been taken already."""
    by, kind, about = paper[BY], paper[KIND], paper[ABOUT]
    alike = [row for row in there.values() if row[KIND] == kind and row[ABOUT] == about]
    if kind == "answer":
        return any([row[BY] == by for row in alike])
    return kind == "decision" and len(alike) > 0


def has_wrong_rests(there, paper):
    """Tell whether a ruling or an unsealing rests on what it may not, or on nothing."""
    kind, rests = paper[KIND], paper[RESTS]
    if kind not in RESTING:
        return False
    if kind == "unseal":
        allowed = {paper[ABOUT]: True}
    else:
        allowed = standing_ones(there)
    good = [rest for rest in rests if rest[0] in allowed and rest[1] < len(there[rest[0]][WORDS])]
    return len(rests) == 0 or len(good) < len(rests)


def has_wrong_words(paper):
    """Tell whether a paper is a decision that decides nothing."""
    return paper[KIND] == "decision" and first_text(paper) not in VERDICTS


def first_text(paper):
    """Tell the text of a paper's first word, or None."""
    if not paper[WORDS]:
        return None
    return paper[WORDS][0][0]


def struck_ones(there):
    """Tell the numbers that are struck, of taken papers in the docket's order."""
    struck = {}
    # Whatever strikes a strike is behind it, so from the last one on
    # it is known of each strike whether it stands.
    for number in reversed(list(there)):
        if there[number][KIND] == "strike" and number not in struck:
            struck[there[number][ABOUT]] = True
    return struck


def overturned(there, verdicts):
    """Tell the numbers of the rulings that got one of the verdicts, which stands."""
    struck = struck_ones(there)
    rows = [row for row in there.values() if row[NUMBER] not in struck]
    appeals = {row[NUMBER]: row[ABOUT] for row in rows if row[KIND] == "appeal"}
    found = {}
    for row in rows:
        if row[KIND] == "decision" and row[ABOUT] in appeals and first_text(row) in verdicts:
            found[appeals[row[ABOUT]]] = True
    return found


def standing_ones(there):
    """Tell the numbers that stand, of taken papers in the docket's order."""
    struck = struck_ones(there)
    undone = overturned(there, OVERTURNED)
    standing = {}
    # What a ruling leans on is ahead of it, so it is settled by then.
    for number, paper in there.items():
        if number in struck or number in undone:
            continue
        if paper[KIND] != "ruling" or all([named in standing for named in leaned_on(paper)]):
            standing[number] = True
    return standing


def leaned_on(ruling):
    """Tell the numbers of the papers that a ruling is about or rests on."""
    return [ruling[ABOUT]] + [number for number, _ in ruling[RESTS]]
