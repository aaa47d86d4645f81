"""Lots of doubtful notes, and what is kept without them: points [25] and [30]."""

from trulymade.closing import Closing


def lots_of(items, many):
    """The list of all lots of so many of these ascending items, as ascending tuples, in their order."""
    if many == 0:
        return [()]
    found = []
    for at, item in enumerate(items):
        found.extend([(item,) + lot for lot in lots_of(items[at + 1:], many - 1)])
    return found


def least_lots(items, passes):
    """The list of the lots that pass and have no other one that passes within them, by length, then as tuples.

    What has a lot that passes within it must pass, too.
    """
    found = []
    for many in range(len(items) + 1):
        for lot in lots_of(items, many):
            if not has_one_of(lot, found) and passes(lot):
                found.append(lot)
    return found


def has_one_of(lot, lots):
    """Whether one of these lots is within the lot."""
    for inner in lots:
        if not [at for at in inner if at not in lot]:
            return True
    return False


def let_lots(book):
    """The list of the lots with as many doubtful notes as lies says."""
    return lots_of(book.doubtful, book.lies)


def kept_without(book, lot):
    """The tuple of all notes but those of the lot."""
    return tuple([at for at in book.all_notes() if at not in lot])


def kept_with(book, lot):
    """The tuple of the sure notes and those of the lot of doubtful ones."""
    return tuple([at for at in book.all_notes() if at not in book.doubtful or at in lot])


def sound_closings(book):
    """The list of those closings, each of what is kept without a let lot, that do not clash."""
    closings = [Closing(book, kept_without(book, lot), None) for lot in let_lots(book)]
    return [closing for closing in closings if not closing.clashes()]
