"""Books with doubtful notes that several tests use: at the bounds, with each answer, and by lot."""

from trulymade.books import Book

THINGS = [("a", 0), ("b", 0), ("c", 0), ("d", 1), ("e", 1), ("f", 2)]

LETTERS = "abcdefghijklmnop"


def told(makings=(), notes=(), doubtful=(), lies=0):
    """A book about six things, two scraps and two hosts, with these makings and notes."""
    return Book(THINGS, ["r", "s"], [("h", 0), ("i", 1)], makings, notes, doubtful, lies)


def full_book(doubtful=range(8), lies=4):
    """A book at all bounds at once, that does not clash: 16 things, 6 scraps, 6 hosts, 30 makings, 20 notes."""
    things = [("t" + letter, at % 5) for at, letter in enumerate(LETTERS)]
    scraps = ["s" + letter for letter in LETTERS[:6]]
    hosts = [("h" + letter, at % 5) for at, letter in enumerate(LETTERS[:6])]
    # ta leads form 0 to 1, tg leads form 1 to 2; the other makers give scraps and things as it comes.
    makings = [("ha", "ta", "tf", "tb"), ("hb", "tg", "tb", "tc"), ("hf", "tk", "tk", "tk")]
    for at in range(27):
        host, maker = (("hc", "tc"), ("hd", "td"), ("he", "te"))[at % 3]
        outcome = (scraps + [name for name, _ in things])[at % 22]
        makings.append((host, maker, things[at % 16][0], outcome))
    notes = [("as", "ti", "tj"), ("apart", "ta", "tb"), ("right", "ta", 0, 1), ("right", "tg", 1, 2),
             ("as", "tl", "tm"), ("right", "tp", 4, 4), ("apart", "tl", "ti"), ("right", "tk", 3, 0)]
    notes += [("host", name) for name, _ in hosts]
    notes += [("right", "tp", 3, 1), ("right", "tp", 2, 2), ("apart", "tn", "to"), ("right", "tn", 1, 3),
              ("right", "tn", 2, 3), ("right", "to", 0, 0)]
    return Book(things, scraps, hosts, makings, notes, list(doubtful), lies)


def many_ways_book():
    """A book with 20 notes that tell ways, all of different classes or sources, and 30 makings."""
    full = full_book((), 0)
    notes = [("right", "t" + letter, source, (at + source) % 5)
             for at, letter in enumerate("abcd") for source in range(5)]
    return Book(full.things, full.scraps, full.hosts, full.makings, notes, (), 0)


def doubted_book(lot):
    """A book by lot with up to eight doubtful notes, many of which speak against each other."""
    things = [("a", 0), ("b", 0), ("c", 1), ("d", 1)]
    makings = [("h", maker, lot.choice("abcd"), lot.choice("abcdr")) for maker in "aabb"]
    makings.append(("i", "c", lot.choice("abcd"), lot.choice("abcdr")))
    notes = [("host", "h"), ("host", "i")]
    for _ in range(lot.randint(2, 10)):
        a, b = lot.choice("abcd"), lot.choice("abcd")
        right = ("right", a, lot.randint(0, 1), lot.randint(0, 1))
        notes.append(lot.choice((("as", a, b), ("apart", a, b), right)))
    notes = list(dict.fromkeys(notes))
    lot.shuffle(notes)
    doubtful = sorted(lot.sample(range(len(notes)), lot.randint(0, min(8, len(notes)))))
    return Book(things, ["r"], [("h", 0), ("i", 1)], list(dict.fromkeys(makings)), notes, doubtful,
                lot.randint(0, len(doubtful)))


# A book that has a claim of each kind with each answer, but "broken". The host "h" and the last three are doubtful.
ANSWERED = told(
    [("h", "a", "b", "d"), ("i", "d", "f", "r"), ("i", "e", "c", "s")],
    [("host", "i"), ("as", "a", "c"), ("right", "c", 0, 1), ("apart", "d", "e"), ("right", "f", 2, 2),
     ("host", "h"), ("as", "b", "e"), ("as", "f", "a")], (5, 6, 7), 2)

ANSWERS = {
    "sure": [("as", "a", "c"), ("as", "c", "a"), ("as", "d", "d"), ("apart", "d", "e"), ("apart", "e", "d"),
             ("right", "a", 0, 1), ("right", "c", 0, 1), ("right", "f", 2, 2), ("gives", "d", "f", "r"),
             ("gives", "e", "c", "s")],
    "never": [("as", "d", "e"), ("as", "e", "d"), ("apart", "a", "c"), ("apart", "b", "b"), ("right", "a", 0, 0),
              ("right", "f", 2, 4), ("gives", "d", "f", "s"), ("gives", "e", "c", "d"), ("right", "d", 2, 1),
              ("gives", "f", "f", "r")],
    "open": [("as", "b", "d"), ("apart", "b", "d"), ("as", "b", "f"), ("apart", "a", "f"), ("right", "b", 0, 1),
             ("right", "f", 0, 1), ("right", "e", 4, 0), ("gives", "a", "b", "d"), ("gives", "c", "b", "d"),
             ("gives", "f", "b", "r")],
}

# The same with a note that clashes with a sure one.
BROKEN = told(ANSWERED.makings, ANSWERED.notes + (("right", "a", 0, 4),), (5, 6, 7), 3)

# m leads from 0 to 1, and from 3 to 0; n from 1 to 2, but it must be led by m to form 0 before it can run; o from 2 to
# 3; p from 0 to 4, but it can never run, as no host runs what is of form 4. The hosts are doubtful, or without a note.
MAKERS = Book(
    [("m", 0), ("n", 3), ("o", 2), ("p", 4), ("x", 0), ("y", 1), ("q", 0)], ["rag"],
    [("h", 0), ("i", 1), ("j", 2), ("k", 2), ("free", 4)], [],
    [("right", "m", 0, 1), ("right", "m", 3, 0), ("right", "n", 1, 2), ("right", "o", 2, 3), ("right", "p", 0, 4),
     ("host", "h"), ("host", "i"), ("host", "j"), ("as", "m", "y"), ("apart", "m", "n")], [5, 6, 7, 8], 0)


def planned_book(lot):
    """A book by lot with few things, many ways and hosts that can be trusted, so that much can be had."""
    things = [(name, lot.choice((0, 0, 1, 2))) for name in "abcde"]
    hosts = [("h", 0), ("i", 1), ("j", 2), ("k", lot.randint(0, 2))]
    notes = [("host", name) for name, _ in hosts if lot.random() < 0.7]
    for name, _ in things[:lot.randint(1, 4)]:
        source = lot.randint(0, 4)
        notes.append(("right", name, source, (source + lot.choice((0, 1, 1, 2, 4))) % 5))
        if lot.random() < 0.5:
            notes.append(("right", name, (source + 1) % 5, lot.randint(0, 4)))
    if lot.random() < 0.4:
        notes.append(("as", "e", lot.choice("abcd")))
    makings = []
    for _ in range(lot.randint(0, 3)):
        host, form = lot.choice(hosts)
        makers = [name for name, own in things if own == form]
        if makers:
            makings.append((host, lot.choice(makers), lot.choice("abcde"), lot.choice("abcder")))
    lot.shuffle(notes)
    doubtful = sorted(lot.sample(range(len(notes)), lot.randint(0, min(6, len(notes)))))
    return Book(things, ["r"], hosts, list(dict.fromkeys(makings)), notes, doubtful, lot.randint(0, len(doubtful)))
