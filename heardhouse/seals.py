"""Seals: who may see which words of the papers, and the docket as a person sees it."""

from heardhouse.days import check_day
from heardhouse.errors import NoPerson, NoWord
from heardhouse.kinds import EVERYBODY, is_whole
from heardhouse.papers import (
    BY, KIND, NUMBER, RESTS, TAKEN, WORDS, check_case, check_papers, filed_day, standing_ones,
    taken_ones, takings_up_to,
)


def sees(case, papers, person, number, place, day):
    """Tell whether a person may see a word of a paper at a day."""
    rows = rows_asked(case, papers, person, day)
    check_word([paper for paper, _ in rows], number, place)
    return (number, place) in seen_words(case, rows, person)


def view(case, papers, person, day):
    """Tell the docket up to a day as a person sees it."""
    return shown_rows(case, rows_asked(case, papers, person, day), person)


def rows_asked(case, papers, person, day):
    """Tell the papers up to a day and their words, where all is well asked."""
    check_case(case)
    check_papers(papers)
    check_person(case, person)
    check_day(day)
    return takings_up_to(case, papers, day)


def check_person(case, person):
    """Refuse who is no person of the case."""
    if not is_person(case, person):
        raise NoPerson()


def check_word(papers, number, place):
    """Refuse what is no number and place of a word in the papers."""
    if not is_word_of(papers, number, place):
        raise NoWord()


def is_person(case, thing):
    """Tell whether a thing is a party, one of the bench, or everybody."""
    if not isinstance(thing, str):
        return False
    return thing == EVERYBODY or thing in case[2] or is_party_of(case, thing)


def is_party_of(case, name):
    """Tell whether a name is one of the case's parties."""
    return name in [party for party, _ in case[1]]


def is_word_of(papers, number, place):
    """Tell whether two things are a number and a place of a word in the papers."""
    if not is_whole(number, 1) or not is_whole(place, 0):
        return False
    return any([paper[NUMBER] == number and place < len(paper[WORDS]) for paper in papers])


def shown_rows(case, rows, person):
    """Tell a view's rows, of papers in order and their words."""
    seen = seen_words(case, rows, person)
    return [shown(case, paper, word, seen) for paper, word in rows]


def shown(case, paper, word, seen):
    """Tell a paper's row in a view, with the texts of the words that are seen."""
    number, _, by, kind, about, words, _ = paper
    texts = [text if (number, place) in seen else None for place, (text, _) in enumerate(words)]
    return (number, filed_day(case, paper), by, kind, about, word, texts)


def seen_words(case, rows, person):
    """Tell the words, as numbers and places, that a person may see of papers in order."""
    opened = opened_words(taken_ones(rows))
    seen = {}
    # What a ruling rests on is ahead of it, so it is settled by then who sees that.
    for paper, word in rows:
        if word == TAKEN:
            places = places_seen(case, paper, person, opened, seen)
        else:
            places = places_of_refused(case, paper, person)
        for place in places:
            seen[(paper[NUMBER], place)] = True
    return seen


def opened_words(there):
    """Tell the words, as numbers and places, that are open whatever their seals."""
    stands = standing_ones(there)
    opened = {}
    for number, paper in there.items():
        if paper[KIND] == "decision":
            opened[(number, 0)] = True
        if paper[KIND] == "unseal" and number in stands:
            for rest in paper[RESTS]:
                opened[rest] = True
    return opened


def places_seen(case, paper, person, opened, seen):
    """Tell the places of the words that a person may see of a taken paper, by those seen ahead."""
    if paper[KIND] == "ruling" and not all([rest in seen for rest in paper[RESTS]]):
        return []
    number = paper[NUMBER]
    seals = [seal for _, seal in paper[WORDS]]
    return [place for place, seal in enumerate(seals) if (number, place) in opened or lets(case, seal, person)]


def places_of_refused(case, paper, person):
    """Tell the places of the words that a person may see of a refused paper."""
    if person in case[2] or person == paper[BY]:
        return list(range(len(paper[WORDS])))
    return []


def lets(case, seal, person):
    """Tell whether a person may see what is under a seal."""
    if seal == "open" or person in case[2]:
        return True
    if seal == "parties":
        return is_party_of(case, person)
    # Seals that are texts would hold parts of themselves, which names can be.
    return isinstance(seal, tuple) and person in seal
