"""In which forms a class can be had, by makings that may still be done: point [31]."""

from trulymade.closing import Closing


class Having:
    """The forms in which each class of a closing is had, at which depth, and by what making.

    A class is known by the first name of it. What is had at a depth is found
    in the round of this depth, from what was had ahead of the round: so each
    depth is the least one.
    """

    def __init__(self, book, kept):
        self.closing = Closing(book, kept, None)
        self.trusted = trusted_hosts(book, kept)
        groups = self.closing.classes()
        self.firsts = {name: group[0] for group in groups for name in group}
        self.depths = {(self.firsts[name], form): 0 for name, form in book.things}
        self.makings = {}
        self._all = [group[0] for group in groups]
        self._routes = [(first, source, target) for first in self._all for source, target in self.closing.ways(first)]
        depth = 1
        while self._go_round(depth):
            depth += 1

    def hand_form(self, first):
        """The form of a trusted host in which the class is had at the least depth, or None."""
        found = [(self.depths[(first, form)], form) for form in self.trusted.values() if (first, form) in self.depths]
        return min(found)[1] if found else None

    def host_of(self, form):
        """The first trusted host of this form."""
        return [host for host in self.trusted if self.trusted[host] == form][0]

    def _go_round(self, depth):
        """Find what is had at this depth, with the source and the maker of it: whether there is anything."""
        found = {}
        for maker, source, target in self._routes:
            if self.hand_form(maker) is not None:
                for first in self._all:
                    if (first, source) in self.depths and (first, target) not in self.depths:
                        found.setdefault((first, target), (source, maker))
        for key in found:
            self.depths[key] = depth
            self.makings[key] = found[key]
        return bool(found)


def trusted_hosts(book, kept):
    """The dict from the hosts for which a kept note stands to their forms, in the order of the book."""
    believed = [book.notes[at] for at in kept]
    return {name: form for name, form in book.hosts if ("host", name) in believed}
