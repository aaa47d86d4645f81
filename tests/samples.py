"""A book that several tests change, and books by lot."""

from trulymade.books import Book

WORDS = ("things", "scraps", "hosts", "makings", "notes", "doubtful", "lies")

PARTS = {
    "things": (("ann", 0), ("bob", 0), ("cat", 1), ("dan", 2)),
    "scraps": ("rag", "tag"),
    "hosts": (("hal", 0), ("ida", 1)),
    "makings": (("hal", "ann", "bob", "cat"), ("hal", "bob", "dan", "rag"), ("ida", "cat", "cat", "cat")),
    "notes": (("as", "ann", "bob"), ("apart", "ann", "cat"), ("right", "ann", 0, 1), ("host", "hal"),
              ("right", "dan", 4, 0), ("host", "ida")),
    "doubtful": (0, 3, 4),
    "lies": 2,
}


def changed(**parts):
    """What the sample book is made of, with other parts."""
    return [parts.get(word, PARTS[word]) for word in WORDS]


def book(**parts):
    return Book(*changed(**parts))


def parts_of(told):
    return [getattr(told, word) for word in WORDS]


def names(many, first="a"):
    """So many unlike names."""
    return [first + "abcdefghijklmnopqrstuvwxyz"[at] for at in range(many)]


def all_claims(told):
    """All claims of a book, those about forms for the forms 0, 1 and 2."""
    things = [name for name, _ in told.things]
    found = []
    for a in things:
        for b in things:
            found += [("as", a, b), ("apart", a, b)] + [("gives", a, b, y) for y in things + list(told.scraps)]
        found += [("right", a, source, target) for source in range(3) for target in range(3)]
    return found


def random_book(lot):
    """A book with few names, so that there is much that follows and much that clashes."""
    mixed = lot.sample(["a", "b", "c", "d", "e", "f", "g", "h", "i", "zz"], 10)
    things = [(name, lot.choice((0, 0, 1, 2))) for name in mixed[:lot.randint(1, 5)]]
    scraps = mixed[5:5 + lot.randint(0, 2)]
    hosts = [(name, lot.choice((0, 0, 1))) for name in mixed[7:7 + lot.randint(0, 3)]]
    notes = [("host", name) for name, _ in hosts if lot.random() < 0.8]
    makings = []
    for _ in range(lot.randint(0, 8)):
        pairs = [(host, name) for host, form in hosts for name, own in things if own == form]
        if pairs:
            read, outcome = lot.choice(things)[0], lot.choice([name for name, _ in things] * 3 + scraps)
            makings.append(lot.choice(pairs) + (read, outcome))
    for _ in range(lot.randint(0, 5)):
        a, b = lot.choice(things)[0], lot.choice(things)[0]
        right = ("right", a, lot.choice((0, 1, 2)), lot.choice((0, 1, 2)))
        notes.append(lot.choice((("as", a, b), ("apart", a, b), right, right)))
    notes = list(dict.fromkeys(notes))
    lot.shuffle(notes)
    doubtful = sorted(lot.sample(range(len(notes)), lot.randint(0, len(notes)) // 2))
    return Book(things, scraps, hosts, list(dict.fromkeys(makings)), notes, doubtful, lot.randint(0, len(doubtful)))
