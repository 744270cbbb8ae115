"""Writing: papers, cases and dockets as texts, and read back from them."""

from heardhouse.errors import NoText
from heardhouse.papers import check_case, check_paper, docket, is_case, is_paper

MOST_FIGURES = 12
QUOTE = '"'


def show_paper(paper):
    """Tell the text that writes a paper."""
    check_paper(paper)
    return paper_text(paper)


def show_case(case):
    """Tell the text that writes a case."""
    check_case(case)
    return case_text(case)


def show_docket(case, papers):
    """Tell the texts that write the docket's papers, in its order."""
    return [paper_text(paper) for paper in docket(case, papers)]


def read_paper(text):
    """Tell the paper that a text writes."""
    if not isinstance(text, str):
        raise NoText()
    paper = paper_of(text)
    # Of all texts that can be taken apart to this paper, only its one writing is good.
    if not is_paper(paper) or paper_text(paper) != text:
        raise NoText()
    return paper


def read_case(text):
    """Tell the case that a text writes."""
    if not isinstance(text, str):
        raise NoText()
    case = case_of(text)
    if not is_case(case) or case_text(case) != text:
        raise NoText()
    return case


def read_docket(texts):
    """Tell the papers that texts write, in the order of the texts."""
    if not isinstance(texts, list):
        raise NoText()
    return [read_paper(text) for text in texts]


def paper_text(paper):
    """Tell the text of what is known to be a paper."""
    number, day, by, kind, about, words, rests = paper
    pieces = [f"#{number}", str(day), by, kind]
    if about is not None:
        pieces.append(f">{about}")
    pieces.extend([word_text(word) for word in words])
    if rests:
        listed = ",".join([f"{other}.{place}" for other, place in rests])
        pieces.append(f"[{listed}]")
    return " ".join(pieces)


def word_text(word):
    """Tell the text of a word, the quotes within it twice."""
    text, seal = word
    return seal_text(seal) + QUOTE + text.replace(QUOTE, QUOTE + QUOTE) + QUOTE


def seal_text(seal):
    """Tell the text of a word's seal."""
    if isinstance(seal, str):
        return seal
    return "(" + "+".join(seal) + ")"


def case_text(case):
    """Tell the text of what is known to be a case."""
    calendar, parties, bench, terms = case
    holidays = ",".join([str(day) for day in calendar])
    sides = ",".join([f"{name}={side}" for name, side in parties])
    judges = ",".join(bench)
    counts = ",".join([f"{count} {unit}" for count, unit in terms])
    return ";".join([holidays, sides, judges, counts])


def paper_of(text):
    """Tell what a paper's text is taken apart to, which may be no paper."""
    pieces = pieces_of(text)
    if len(pieces) < 4:
        raise NoText()
    number, day, by, kind = pieces[:4]
    pieces = pieces[4:]
    about, rests = None, ()
    if pieces and pieces[0].startswith(">"):
        about = whole_of(pieces[0][1:])
        pieces = pieces[1:]
    if pieces and pieces[-1].startswith("["):
        rests = tuple([rest_of(piece) for piece in pieces[-1][1:-1].split(",")])
        pieces = pieces[:-1]
    words = tuple([word_of(piece) for piece in pieces])
    return (whole_of(number[1:]), whole_of(day), by, kind, about, words, rests)


def pieces_of(text):
    """Tell the pieces of a text between those blanks that stand in no quotes."""
    pieces = []
    start = 0
    quoted = False
    for place, sign in enumerate(text):
        # Of quotes that stand twice the second undoes what the first one does.
        if sign == QUOTE:
            quoted = not quoted
        if sign == " " and not quoted:
            pieces.append(text[start:place])
            start = place + 1
    pieces.append(text[start:])
    return pieces


def whole_of(text):
    """Tell the number that figures write."""
    if not text.isascii() or not text.isdigit() or len(text) > MOST_FIGURES:
        raise NoText()
    return int(text)


def rest_of(text):
    """Tell the number and the place of a rest."""
    number, _, place = text.partition(".")
    return (whole_of(number), whole_of(place))


def word_of(text):
    """Tell what a word's text is taken apart to."""
    seal, _, quoted = text.partition(QUOTE)
    return (quoted[:-1].replace(QUOTE + QUOTE, QUOTE), seal_of(seal))


def seal_of(text):
    """Tell what a seal's text is taken apart to."""
    if not text.startswith("("):
        return text
    return tuple(parts_of(text[1:-1], "+"))


def case_of(text):
    """Tell what a case's text is taken apart to, which may be no case."""
    pieces = text.split(";")
    if len(pieces) != 4:
        raise NoText()
    holidays, sides, judges, counts = pieces
    calendar = tuple([whole_of(day) for day in parts_of(holidays, ",")])
    parties = tuple([party_of(piece) for piece in parts_of(sides, ",")])
    terms = tuple([term_of(piece) for piece in parts_of(counts, ",")])
    return (calendar, parties, tuple(parts_of(judges, ",")), terms)


def parts_of(text, sign):
    """Tell the parts of a text between signs, none of an empty text."""
    if text == "":
        return []
    return text.split(sign)


def party_of(text):
    """Tell the name and the side of a party."""
    name, _, side = text.partition("=")
    return (name, side)


def term_of(text):
    """Tell the count and the unit of a term."""
    count, _, unit = text.partition(" ")
    return (whole_of(count), unit)
