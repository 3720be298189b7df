"""Rows of a play: what each of them asks for."""

from posthouse.errors import BadText
from posthouse.texts import are_figures, read_address, read_beginning

MOST_FIGURES = 9

FORMS = (
    ("net", "COUNT"),
    ("own", "H", "BEGINNING"),
    ("come", "H", "H", "LENGTH"),
    ("fall", "H", "H"),
    ("carry", "H", "H"),
    ("rest",),
    ("rest", "N"),
    ("table", "H"),
    ("road", "H", "ADDRESS"),
    ("way", "H", "H"),
    ("ties",),
    ("waiting",),
)

BOUNDS = {"COUNT": (1, 32), "H": (0, 31), "LENGTH": (1, 99), "N": (0, 999999999)}


def need_text(thing):
    if not isinstance(thing, str):
        raise BadText("no text")


def words_of(row):
    return [word for word in row.split(" ") if word != ""]


def form_of(words):
    for form in FORMS:
        if len(form) == len(words) and form[0] == words[0]:
            return form
    return None


def read_number(word, bounds):
    if not are_figures(word, MOST_FIGURES) or not bounds[0] <= int(word) <= bounds[1]:
        raise BadText(f"no number that is meant here: {word!r}")
    return int(word)


def read_part(kind, word):
    if kind == "BEGINNING":
        return read_beginning(word)
    if kind == "ADDRESS":
        return read_address(word)
    return read_number(word, BOUNDS[kind])


def asked_by(row):
    need_text(row)
    words = words_of(row)
    form = form_of(words)
    if form is None:
        return None
    try:
        parts = [read_part(kind, word) for kind, word in zip(form[1:], words[1:])]
    except BadText:
        return None
    return (form[0],) + tuple(parts)
