"""The docket and its takings once more, as plainly as the document's words go.

It asks each question anew, from the papers alone, and is used by small tests only.
"""

SUBJECTS = {
    "answer": ("claim",), "motion": ("claim",), "reply": ("motion",), "evidence": ("claim", "motion"),
    "ruling": ("claim", "motion"), "appeal": ("ruling",), "decision": ("appeal",),
}


def is_open(calendar, day):
    return day not in calendar and day % 7 < 5


def next_open(calendar, day):
    while not is_open(calendar, day):
        day += 1
    return day


def end(calendar, day, term):
    count, unit = term
    if unit == "days" or count == 0:
        return next_open(calendar, day + count)
    for _ in range(count):
        day = next_open(calendar, day + 1)
    return day


def docket(case, papers):
    first = {}
    for paper in papers:
        first.setdefault(paper[0], paper)
    return sorted(first.values(), key=lambda paper: (next_open(case[0], paper[1]), paper[0]))


def struck(there, number):
    return any(
        paper[3] == "strike" and paper[4] == number and stands(there, paper[0])
        for paper in there.values()
    )


def decided(there, number, texts):
    """Whether a decision of these texts, which stands as its appeal does, is on a ruling."""
    for paper in there.values():
        if paper[3] == "decision" and paper[5][0][0] in texts and stands(there, paper[0]):
            if there[paper[4]][4] == number and stands(there, paper[4]):
                return True
    return False


def stands(there, number):
    if number not in there or struck(there, number):
        return False
    paper = there[number]
    if paper[3] != "ruling":
        return True
    if decided(there, number, ("undone", "back")):
        return False
    return stands(there, paper[4]) and all(stands(there, rest) for rest, _ in paper[6])


def taking(case, ahead, paper):
    calendar, parties, bench, terms = case
    number, day, by, kind, about, words, rests = paper
    there = {row[0]: row for row, word in ahead if word == "taken"}
    side = dict(parties).get(by)
    maker = {"claim": side == "asker", "answer": side == "answerer"}
    for one in ("ruling", "strike", "unseal", "decision"):
        maker[one] = by in bench
    if not maker.get(kind, side is not None):
        return "maker"
    if kind != "claim":
        if about not in there or there[about][3] not in SUBJECTS.get(kind, (there[about][3],)):
            return "about"
        subject = there[about]
    if kind == "reply" and subject[2] == by:
        return "own"
    if kind == "decision" and there[subject[4]][2] == by:
        return "own"
    if kind == "ruling":
        for row in there.values():
            if row[3] == "ruling" and row[4] == about and row[2] == by and decided(there, row[0], ("back",)):
                return "own"
    if kind in ("answer", "reply", "appeal"):
        term = terms[("answer", "reply", "appeal").index(kind)]
        if next_open(calendar, day) > end(calendar, next_open(calendar, subject[1]), term):
            return "late"
    for row in there.values():
        if kind == "answer" and row[3] == "answer" and row[4] == about and row[2] == by:
            return "twice"
        if kind == "decision" and row[3] == "decision" and row[4] == about:
            return "twice"
    if kind == "ruling":
        if not rests:
            return "rests"
        for rest, place in rests:
            if rest not in there or place >= len(there[rest][5]) or not stands(there, rest):
                return "rests"
    if kind == "unseal":
        if not rests or any(rest != about or place >= len(subject[5]) for rest, place in rests):
            return "rests"
    if kind == "decision" and (not words or words[0][0] not in ("upheld", "undone", "back")):
        return "words"
    return "taken"


def taken(case, papers):
    ahead = []
    for paper in docket(case, papers):
        ahead.append((paper, taking(case, ahead, paper)))
    return [(paper[0], word) for paper, word in ahead]
