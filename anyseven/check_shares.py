"""Which papers of shares of both amounts are right."""

from anyseven.checks import is_integer
from anyseven.quotients import fraction_sum, is_at_most, is_fraction_within
from anyseven.row_shares import NoShare, Rest, rest_of_share, share_of_row
from anyseven.shares import Share, need_share


def shows_round(amounts, share, value):
    """Whether it is a Share of any stretch of the round that has the share, and begins ahead of the last place."""
    need_share(amounts, share)
    if type(value) is not Share or not has_share(amounts, share, value):
        return False
    return not is_at_most((amounts.days, 1), value.first)


def shows_row(amounts, share, value):
    """Whether it is a Share of any stretch of the row that has the share, or the NoShare."""
    need_share(amounts, share)
    if type(value) is NoShare:
        return is_integer(value.sign) and value == share_of_row(amounts, share)
    return type(value) is Share and is_in_row(amounts, value) and has_share(amounts, share, value)


def shows_or_rest(amounts, share, value):
    """Whether it is a Share, or a Rest, of any stretch of the row that has the share, or the rest."""
    need_share(amounts, share)
    if type(value) is Rest:
        return is_in_row(amounts, value) and has_share(amounts, rest_of_share(share), value)
    return type(value) is Share and is_in_row(amounts, value) and has_share(amounts, share, value)


def has_share(amounts, share, paper):
    """Whether the moments of a paper tell a stretch of the round with the share of both."""
    if not is_fraction_within(paper.first, (0, 1), (amounts.days, 1)):
        return False
    if not is_fraction_within(paper.last, paper.first, fraction_sum(paper.first, (amounts.days, 1))):
        return False
    return all([part == tuple(share) for part in amounts.parts(paper.first, paper.last)])


def is_in_row(amounts, paper):
    """Whether the last moment of a paper is one of the row."""
    return is_fraction_within(paper.last, None, (amounts.days, 1))
