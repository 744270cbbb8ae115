"""Small makers of cases and papers, which the tests share."""

CALENDAR = (9, 10, 14)
PARTIES = (("ann", "asker"), ("ben", "answerer"), ("cid", "asker"), ("dot", "answerer"))
BENCH = ("jon", "kay", "lou")
TERMS = ((10, "days"), (3, "open"), (5, "days"), (2, "open"))
CASE = (CALENDAR, PARTIES, BENCH, TERMS)

# Without holidays and with long terms, where days do not matter.
LONG = ((), PARTIES, BENCH, ((400, "days"),) * 4)

WORD = ("said", "open")


def paper(number, by, kind, about=None, day=0, words=(WORD,), rests=()):
    return (number, day, by, kind, about, words, rests)


def claim(number, by="ann", **more):
    return paper(number, by, "claim", **more)


def motion(number, about, by="ann", **more):
    return paper(number, by, "motion", about, **more)


def answer(number, about, by="ben", **more):
    return paper(number, by, "answer", about, **more)


def reply(number, about, by="ben", **more):
    return paper(number, by, "reply", about, **more)


def evidence(number, about, by="ann", **more):
    return paper(number, by, "evidence", about, **more)


def ruling(number, about, rests, by="jon", **more):
    return paper(number, by, "ruling", about, rests=rests, **more)


def strike(number, about, by="jon", **more):
    return paper(number, by, "strike", about, **more)


def unseal(number, about, rests, by="jon", **more):
    return paper(number, by, "unseal", about, rests=rests, **more)


def appeal(number, about, by="ben", **more):
    return paper(number, by, "appeal", about, **more)


def decision(number, about, text="undone", by="kay", **more):
    return paper(number, by, "decision", about, words=((text, "open"),), **more)


def nested(deep):
    """A list within a list, so deep."""
    thing = []
    for _ in range(deep - 1):
        thing = [thing]
    return thing


class Alike:
    """A thing that says it is like any other."""

    def __eq__(self, other):
        return True

    __hash__ = None


class Angry:
    """A thing that will not be compared."""

    def refuse(self, other=None):
        raise RuntimeError("not to be asked")

    __eq__ = __ne__ = __lt__ = __le__ = __gt__ = __ge__ = __len__ = __bool__ = __iter__ = refuse
    __hash__ = None


# Things of every kind that are neither calendar, day, term, case nor paper.
ANYTHING = (
    None, True, False, -1, 0.0, 1.5, float("nan"), "", "a", "open", b"", b"open", [], {}, set(),
    frozenset(), object(), int, len, range(3), nested(40), (None,), (True,), ((),), ([],), ({},),
    [0, 1], {0: 1}, 1j, iter(()), Ellipsis, NotImplemented, ("days", 1), (-1,), ("",),
    Alike(), Angry(), (Alike(),), (Angry(), Angry()), (1, Alike()), (1, Angry()),
)
