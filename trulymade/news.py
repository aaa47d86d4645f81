"""What is answered unlike by two books: point [34]."""

from trulymade.answers import answer_among
from trulymade.books import check_book
from trulymade.errors import BadClaims
from trulymade.letting import sound_closings

MOST_CLAIMS = 50


def changes(old, new, claims):
    """The list of tuples of a claim and both answers, for the claims that the two books answer unlike."""
    check_book(old)
    check_book(new)
    check_claims(old, new, claims)
    old_closings = sound_closings(old)
    new_closings = sound_closings(new)
    answers = [(claim, answer_among(old_closings, claim), answer_among(new_closings, claim)) for claim in claims]
    return [(claim, word, new_word) for claim, word, new_word in answers if word != new_word]


def check_claims(old, new, claims):
    """These must be a row of claims of both books."""
    if not isinstance(claims, (list, tuple)) or len(claims) > MOST_CLAIMS:
        raise BadClaims(-1)
    for at, claim in enumerate(claims):
        if not old.has_claim(claim) or not new.has_claim(claim):
            raise BadClaims(at)
