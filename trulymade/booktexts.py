"""Books as strings for people: point [19].

What reads a row, or a part of one, tells None for what is not so written.
"""

from trulymade.books import Book, check_book
from trulymade.errors import BadText
from trulymade.names import is_name

FORM_DIGITS = "01234"
# Which rows stand ahead of which.
PLACES = {"thing": 0, "scrap": 1, "host": 2, "made": 3, "sure": 4, "doubt": 4, "lies": 5}
# A book has far fewer lies than any number with more digits.
MOST_DIGITS = 9


def write_book(book):
    """The string in which a book is listed."""
    check_book(book)
    rows = [f"thing {name} {form}" for name, form in book.things]
    rows.extend([f"scrap {name}" for name in book.scraps])
    rows.extend([f"host {name} {form}" for name, form in book.hosts])
    rows.extend([" ".join(["made", *making]) for making in book.makings])
    rows.extend([note_text(note, at in book.doubtful) for at, note in enumerate(book.notes)])
    return "\n".join(rows + [f"lies {book.lies}"])


def note_text(note, doubt):
    """The row for a note."""
    word = "doubt" if doubt else "sure"
    return " ".join([word] + [str(item) for item in note])


def read_book(text):
    """The book that is listed so."""
    if not isinstance(text, str):
        raise BadText(-1)
    rows = text.split("\n")
    found = {word: [] for word in PLACES}
    notes = []
    place = 0
    for at, row in enumerate(rows):
        word = row.partition(" ")[0]
        value = read_row(row)
        if value is None or PLACES[word] < place or found["lies"]:
            raise BadText(at)
        place = PLACES[word]
        found[word].append(len(notes) if word == "doubt" else value)
        if word in ("sure", "doubt"):
            notes.append(value)
    if not found["lies"]:
        raise BadText(len(rows))
    return Book(found["thing"], found["scrap"], found["host"], found["made"], notes, found["doubt"], found["lies"][0])


def read_row(row):
    """What stands in a row behind its first word."""
    word, *parts = row.split(" ")
    if word in ("thing", "host"):
        return read_formed(parts)
    if word == "scrap":
        return parts[0] if len(parts) == 1 and is_name(parts[0]) else None
    if word == "made":
        return tuple(parts) if len(parts) == 4 and are_names(parts) else None
    if word in ("sure", "doubt"):
        return read_note(parts)
    if word == "lies" and len(parts) == 1:
        return read_number(parts[0])
    return None


def are_names(parts):
    """Whether all of these are names."""
    return all([is_name(part) for part in parts])


def read_formed(parts):
    """The tuple of a name and a form."""
    if len(parts) != 2 or not is_name(parts[0]) or not is_digit_of_form(parts[1]):
        return None
    return parts[0], int(parts[1])


def is_digit_of_form(text):
    """Whether a form is written so."""
    return len(text) == 1 and text in FORM_DIGITS


def read_note(parts):
    """The note that has these items."""
    word = parts[0] if parts else ""
    if (word in ("as", "apart") and len(parts) == 3) or (word == "host" and len(parts) == 2):
        return tuple(parts) if are_names(parts[1:]) else None
    if word == "right" and len(parts) == 4 and is_name(parts[1]):
        forms = [int(part) for part in parts[2:] if is_digit_of_form(part)]
        return (word, parts[1], *forms) if len(forms) == 2 else None
    return None


def read_number(text):
    """The number that is written so in digits without a needless 0; of long ones only that it is large."""
    if not text.isascii() or not text.isdigit() or (text[0] == "0" and text != "0"):
        return None
    # Python refuses to read numbers of some thousand digits.
    return int(text[:MOST_DIGITS])
