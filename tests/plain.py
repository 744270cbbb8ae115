"""What the program tells once more, as plainly as the document's words go.

It asks each question anew, from the papers alone, and is used by small tests only.
"""

import fractions
import itertools
import math

SUBJECTS = {
    "answer": ("claim",), "motion": ("claim",), "reply": ("motion",), "evidence": ("claim", "motion"),
    "ruling": ("claim", "motion"), "appeal": ("ruling",), "decision": ("appeal",),
}


def is_open(calendar, day):
    return day not in calendar and day % 7 < 5


def next_open(calendar, day):
    while not is_open(calendar, day):
        day += 1
    return day


def end(calendar, day, term):
    count, unit = term
    if unit == "days" or count == 0:
        return next_open(calendar, day + count)
    for _ in range(count):
        day = next_open(calendar, day + 1)
    return day


def docket(case, papers):
    first = {}
    for paper in papers:
        first.setdefault(paper[0], paper)
    return sorted(first.values(), key=lambda paper: (next_open(case[0], paper[1]), paper[0]))


def struck(there, number):
    return any(
        paper[3] == "strike" and paper[4] == number and stands(there, paper[0])
        for paper in there.values()
    )


def decided(there, number, texts):
    """Whether a decision of these texts, which stands as its appeal does, is on a ruling."""
    for paper in there.values():
        if paper[3] == "decision" and paper[5][0][0] in texts and stands(there, paper[0]):
            if there[paper[4]][4] == number and stands(there, paper[4]):
                return True
    return False


def stands(there, number):
    if number not in there or struck(there, number):
        return False
    paper = there[number]
    if paper[3] != "ruling":
        return True
    if decided(there, number, ("undone", "back")):
        return False
    return stands(there, paper[4]) and all(stands(there, rest) for rest, _ in paper[6])


def taking(case, ahead, paper):
    calendar, parties, bench, terms = case
    number, day, by, kind, about, words, rests = paper
    there = {row[0]: row for row, word in ahead if word == "taken"}
    side = dict(parties).get(by)
    maker = {"claim": side == "asker", "answer": side == "answerer"}
    for one in ("ruling", "strike", "unseal", "decision"):
        maker[one] = by in bench
    if not maker.get(kind, side is not None):
        return "maker"
    if kind != "claim":
        if about not in there or there[about][3] not in SUBJECTS.get(kind, (there[about][3],)):
            return "about"
        subject = there[about]
    if kind == "reply" and subject[2] == by:
        return "own"
    if kind == "decision" and there[subject[4]][2] == by:
        return "own"
    if kind == "ruling":
        for row in there.values():
            if row[3] == "ruling" and row[4] == about and row[2] == by and decided(there, row[0], ("back",)):
                return "own"
    if kind in ("answer", "reply", "appeal"):
        term = terms[("answer", "reply", "appeal").index(kind)]
        if next_open(calendar, day) > end(calendar, next_open(calendar, subject[1]), term):
            return "late"
    for row in there.values():
        if kind == "answer" and row[3] == "answer" and row[4] == about and row[2] == by:
            return "twice"
        if kind == "decision" and row[3] == "decision" and row[4] == about:
            return "twice"
    if kind == "ruling":
        if not rests:
            return "rests"
        for rest, place in rests:
            if rest not in there or place >= len(there[rest][5]) or not stands(there, rest):
                return "rests"
    if kind == "unseal":
        if not rests or any(rest != about or place >= len(subject[5]) for rest, place in rests):
            return "rests"
    if kind == "decision" and (not words or words[0][0] not in ("upheld", "undone", "back")):
        return "words"
    return "taken"


def taken(case, papers):
    ahead = []
    for paper in docket(case, papers):
        ahead.append((paper, taking(case, ahead, paper)))
    return [(paper[0], word) for paper, word in ahead]


def rows(case, papers, day):
    """The papers filed up to a day, and their words."""
    ahead = []
    for paper in docket(case, papers):
        if next_open(case[0], paper[1]) <= day:
            ahead.append((paper, taking(case, ahead, paper)))
    return ahead


def taken_up_to(case, papers, day):
    return {paper[0]: paper for paper, word in rows(case, papers, day) if word == "taken"}


def standing(case, papers, day):
    there = taken_up_to(case, papers, day)
    return [number for number in sorted(there) if stands(there, number)]


def leans(case, papers, day):
    found = []
    for paper in taken_up_to(case, papers, day).values():
        if paper[3] == "ruling":
            for other in [paper[4]] + [rest for rest, _ in paper[6]]:
                if (paper[0], other) not in found:
                    found.append((paper[0], other))
    return sorted(found)


def falls(case, papers, number, day):
    there = taken_up_to(case, papers, day)
    struck_too = dict(there)
    if number in there:
        struck_too[-1] = (-1, day, "jon", "strike", number, (), ())
    found = []
    for one in sorted(there):
        if there[one][3] == "ruling" and stands(there, one) and not stands(struck_too, one):
            found.append(one)
    return found


def settled(case, papers, day):
    there = taken_up_to(case, papers, day)
    found = []
    for number in sorted(there):
        if there[number][3] in ("claim", "motion") and stands(there, number):
            last = None
            for one in there:
                if there[one][3] == "ruling" and there[one][4] == number and stands(there, one):
                    last = one
            found.append((number, last))
    return found


def reopened(case, papers, day):
    there = taken_up_to(case, papers, day)
    ruled = [paper[4] for paper in there.values() if paper[3] == "ruling"]
    return [number for number, last in settled(case, papers, day) if last is None and number in ruled]


def sees(case, papers, person, number, place, day):
    paper, word = {row[0][0]: row for row in rows(case, papers, day)}[number]
    if word != "taken":
        return person in case[2] or person == paper[2]
    return sees_taken(case, taken_up_to(case, papers, day), person, number, place)


def sees_taken(case, there, person, number, place):
    paper = there[number]
    seal = paper[5][place][1]
    if paper[3] == "decision" and place == 0:
        seal = "open"
    for other in there.values():
        if other[3] == "unseal" and (number, place) in other[6] and stands(there, other[0]):
            seal = "open"
    parties = [name for name, _ in case[1]]
    may = {"open": True, "parties": person in parties, "bench": False}
    own = person in case[2] or may.get(seal, person in parties and person in list(seal))
    if not own or paper[3] != "ruling":
        return own
    return all(sees_taken(case, there, person, rest, where) for rest, where in paper[6])


def view(case, papers, person, day):
    told = []
    for paper, word in rows(case, papers, day):
        number, own_day, by, kind, about, words, _ = paper
        texts = []
        for place, (text, _) in enumerate(words):
            texts.append(text if sees(case, papers, person, number, place, day) else None)
        told.append((number, next_open(case[0], own_day), by, kind, about, word, texts))
    return told


def is_laying(plan, matters, laying):
    """Whether tuples of the right form lay the first so many matters."""
    calendar, rooms, slots = plan
    used = []
    for (name, people, length, first, last), (told, day, slot, room) in zip(matters, laying):
        if told != name or not first <= day <= last or not is_open(calendar, day):
            return False
        if not 0 <= slot <= slots - length or not 0 <= room < rooms:
            return False
        for hour in range(slot, slot + length):
            used.append((day, hour, room))
            used += [(day, hour, person) for person in people]
    return len(used) == len(set(used))


def lay_more(plan, matters, laying):
    """The first laying behind a good one, by trying all that is, from the first on."""
    if len(laying) == len(matters):
        return list(laying)
    name, _, _, first, last = matters[len(laying)]
    for day in range(first, last + 1):
        for slot in range(plan[2]):
            for room in range(plan[1]):
                longer = laying + [(name, day, slot, room)]
                if is_laying(plan, matters, longer):
                    told = lay_more(plan, matters, longer)
                    if told is not None:
                        return told
    return None


def clash(plan, matters):
    for many in range(len(matters) + 1):
        for chosen in itertools.combinations(matters, many):
            if lay_more(plan, list(chosen), []) is None:
                return [matter[0] for matter in chosen]
    return None


def parted(coins, shares):
    whole = sum(weight for _, weight in shares)
    exact = {name: fractions.Fraction(coins * weight, whole) for name, weight in shares}
    parts = {name: math.floor(part) for name, part in exact.items()}
    given = []
    while sum(parts.values()) < coins:
        left = [name for name, _ in shares if name not in given]
        best = max(exact[name] - math.floor(exact[name]) for name in left)
        lucky = [name for name in left if exact[name] - math.floor(exact[name]) == best][0]
        parts[lucky] += 1
        given.append(lucky)
    return [(name, parts[name]) for name, _ in shares]


def owed(case, papers, awards, day, one, other, only_late=False):
    """What one owes other by the awards that count at the day."""
    total = 0
    for ruling, payee, coins, shares in awards:
        if payee != other or ruling not in standing(case, papers, day):
            continue
        paper = [row for row in docket(case, papers) if row[0] == ruling][0]
        last = end(case[0], next_open(case[0], paper[1]), case[3][3])
        if paper[3] == "ruling" and (not only_late or last < day):
            total += sum(part for name, part in parted(coins, shares) if name == one)
    return total


def paid(payments, day, one, other):
    return sum(row[3] for row in payments if row[:3] == (row[0], one, other) and row[0] <= day)


def dues(case, papers, awards, payments, day):
    told = []
    for one, other in itertools.permutations([name for name, _ in case[1]], 2):
        coins = owed(case, papers, awards, day, one, other) - owed(case, papers, awards, day, other, one)
        coins -= paid(payments, day, one, other) - paid(payments, day, other, one)
        if coins > 0:
            told.append((one, other, coins))
    return sorted(told)


def late(case, papers, awards, payments, day):
    told = []
    for one, other in itertools.permutations([name for name, _ in case[1]], 2):
        coins = owed(case, papers, awards, day, one, other, True) - paid(payments, day, one, other)
        if coins > 0:
            told.append((one, other, coins))
    return sorted(told)


def balance(case, papers, awards, payments, day):
    told = []
    for name, _ in case[1]:
        coins = 0
        for other, _ in case[1]:
            coins += owed(case, papers, awards, day, other, name) - owed(case, papers, awards, day, name, other)
            coins += paid(payments, day, name, other) - paid(payments, day, other, name)
        told.append((name, coins))
    return told


def news(case, papers, person, since, day):
    before = view(case, papers, person, since)
    return [row for row in view(case, papers, person, day) if row not in before]
