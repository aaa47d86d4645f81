"""Signs, rows and things: points [4] and [5]."""

from trulymade.errors import BadForm, BadRow, BadSign, BadThing

SIGNS = 100
FORMS = 5
SHIFT = 20


def is_whole(value):
    """Whether this is an integer, as which a flag does not count."""
    return isinstance(value, int) and not isinstance(value, bool)


def is_sign(value):
    """Whether this is a sign."""
    return is_whole(value) and 0 <= value < SIGNS


def is_form(value):
    """Whether this is a form."""
    return is_whole(value) and 0 <= value < FORMS


def is_row(value):
    """Whether this is a row: a list or a tuple of signs."""
    if not isinstance(value, (list, tuple)):
        return False
    # This asks what is_sign asks, but without its calls: rows are long, and many.
    for sign in value:
        if not isinstance(sign, int) or isinstance(sign, bool) or not 0 <= sign < SIGNS:
            return False
    return True


def row_order(row):
    """What rows are sorted by: of some rows the one with the least row_order is the least row."""
    return len(row), tuple(row)


def shifted(row, by):
    """The row with so much added to each sign."""
    return tuple([(sign + by) % SIGNS for sign in row])


def is_thing(row):
    """Whether this is a row that is a thing of some form."""
    return is_row(row) and len(row) >= 2 and is_form(row[0])


def form_of(thing):
    """The form of a thing."""
    if not is_thing(thing):
        raise BadThing(thing)
    return thing[0]


def number_of(thing):
    """The number of a thing."""
    if not is_thing(thing):
        raise BadThing(thing)
    return thing[1]


def body_of(thing):
    """The body of a thing."""
    form = form_of(thing)
    return shifted(thing[2:], -SHIFT * form)


def thing_of(form, number, body):
    """The thing that has this form, number and body."""
    if not is_form(form):
        raise BadForm(form)
    if not is_sign(number):
        raise BadSign(number)
    if not is_row(body):
        raise BadRow(body)
    return (form, number) + shifted(body, SHIFT * form)
