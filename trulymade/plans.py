"""What can still be had, and by which makings: points [31] to [33]."""

from trulymade.books import Book, check_book, check_kept
from trulymade.errors import BadForm, BadName, BadPlanned, Clashes
from trulymade.having import Having
from trulymade.letting import kept_with, least_lots
from trulymade.names import is_name
from trulymade.planning import Growth, Planner
from trulymade.rows import is_form


def had(book, kept):
    """The dict from the tuples of a thing and a form in which its class is had to the least depth."""
    check_book(book)
    check_kept(book, kept)
    having = Having(book, kept)
    return {(name, form): depth for name, _ in book.things
            for (first, form), depth in having.depths.items() if first == having.firsts[name]}


def plan(book, kept, thing, form):
    """A plan that makes the class of the thing in this form at the least depth, or None."""
    having = having_for(book, kept, thing, form)
    first = having.firsts[thing]
    if (first, form) not in having.depths:
        return None
    return Planner(book, having).plan_for(first, form)


def is_plan(book, kept, name, form, thing):
    """Whether this is a plan for the thing with this name and the form."""
    having = having_for(book, kept, name, form)
    if not isinstance(thing, tuple):
        return False
    first = having.firsts[name]
    if not thing:
        return having.depths.get((first, form)) == 0
    growth = Growth(book, having)
    for value in thing:
        if not growth.has_grown(value):
            return False
    return thing[-1][4] == form and growth.first_of(thing[-1][2]) == first


def having_for(book, kept, name, form):
    """What is had by the kept notes, which must not clash; the name must be of a thing, the form one."""
    check_book(book)
    check_kept(book, kept)
    check_thing_and_form(book, name, form)
    having = Having(book, kept)
    if having.closing.clashes():
        raise Clashes()
    return having


def check_thing_and_form(book, name, form):
    """These must be a thing of the book and a form."""
    if not book.has_thing(name):
        raise BadName(name)
    if not is_form(form):
        raise BadForm(form)


def depth_of(planned):
    """The depth of the last planned making of a plan; 0 if it has none."""
    depths = {}
    depth = 0
    for _, maker, thing, outcome, _ in planned:
        depth = 1 + max(depths.get(maker, 0), depths.get(thing, 0))
        depths[outcome] = depth
    return depth


def grown(book, planned):
    """The book with the outcomes of planned makings and with these makings."""
    check_book(book)
    if not isinstance(planned, (list, tuple)):
        raise BadPlanned(-1)
    outcomes = {}
    for at, value in enumerate(planned):
        if not is_planned(value) or value[3] in outcomes or book.has_name(value[3]):
            raise BadPlanned(at)
        outcomes[value[3]] = value[4]
    things = list(book.things) + list(outcomes.items())
    makings = list(book.makings) + [value[:4] for value in planned]
    return Book(things, book.scraps, book.hosts, makings, book.notes, book.doubtful, book.lies)


def is_planned(value):
    """Whether this is a tuple of five things of which the outcome is a name and the last one a form."""
    return isinstance(value, tuple) and len(value) == 5 and is_name(value[3]) and is_form(value[4])


def seeds(book, name, form):
    """The list of the least lots of doubtful notes with which the class of the thing is had in the form."""
    check_book(book)
    check_thing_and_form(book, name, form)
    return least_lots(book.doubtful, lambda lot: (name, form) in had(book, kept_with(book, lot)))
