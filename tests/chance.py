"""Papers by chance, the same for the same seed."""

import random

from tests import plain

ABOUT = dict(plain.SUBJECTS, strike=None, unseal=None)
KINDS = ("claim",) + tuple(ABOUT) + ("ruling", "ruling", "ruling", "strike", "appeal", "decision")
SEALS = ("open", "open", "parties", "bench", (), ("ann",), ("ann", "ben"), ("cid", "jon"), ("kay",), ("zed",))


class Chance:
    """Papers that are good in form and mostly fit one another."""

    def __init__(self, seed):
        self.chance = random.Random(seed)

    def pick(self, rows):
        return self.chance.choice(rows)

    def maker(self, kind):
        if self.chance.random() < 0.05:
            return self.pick(("ann", "ben", "jon", "zed"))
        if kind in ("ruling", "strike", "unseal", "decision"):
            return self.pick(("jon", "kay", "lou"))
        return self.pick({"claim": ("ann", "cid"), "answer": ("ben", "dot")}.get(kind, ("ann", "ben", "cid", "dot")))

    def words(self, kind):
        """Words, each of its own text, so that none is taken for another."""
        many = self.pick((0, 1, 1, 2, 2, 2))
        words = [(f"said {self.chance.random()}", self.pick(SEALS)) for _ in range(many)]
        if kind == "decision" and words:
            words[0] = (self.pick(("upheld", "undone", "back", "undone", "back", "no")), words[0][1])
        return tuple(words)

    def rests(self, kind, about, rows):
        if kind not in ("ruling", "unseal"):
            return ()
        found = set()
        for _ in range(self.pick((0, 1, 1, 1, 2, 2, 3))):
            row = self.pick(rows[-6:] if self.chance.random() < 0.5 else rows)
            if kind == "unseal" and self.chance.random() < 0.9:
                row = [one for one in rows if one[0] == about][0]
            many = len(row[5])
            place = self.pick(range(many)) if many and self.chance.random() < 0.9 else 1
            found.add((row[0], place))
        return tuple(sorted(found))

    def fitting(self, kind, rows):
        return [row for row in rows if row[3] in (ABOUT[kind] or (row[3],))]

    def paper(self, number, day, rows):
        kinds = [kind for kind in KINDS if kind == "claim" or self.fitting(kind, rows)]
        kind = self.pick(kinds)
        about = None
        if kind != "claim":
            fitting = rows if self.chance.random() < 0.03 else self.fitting(kind, rows)
            about = self.pick(fitting[-4:] if self.chance.random() < 0.5 else fitting)[0]
        by, words = self.maker(kind), self.words(kind)
        return (number, day, by, kind, about, words, self.rests(kind, about, rows))

    def papers(self, many):
        rows, day = [], 0
        for number in range(1, many + 1):
            day += self.pick((0, 0, 0, 1, 1, 3))
            rows.append(self.paper(number, day, rows))
        self.chance.shuffle(rows)
        return rows
