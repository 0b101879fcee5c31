"""Claims about media and coders, and the certificates by which they are checked."""

from barredrows.ahead import blind_ring, is_blind_ring
from barredrows.alike import parting_text
from barredrows.basics import is_between
from barredrows.checks import is_text
from barredrows.coders import MOST_FOLLOWED, Coder, misfit, row_of
from barredrows.errors import InvalidClaim
from barredrows.exact import paper
from barredrows.judging import clash, is_clash
from barredrows.least import MOST_WEIGHT, fallings, is_decline
from barredrows.media import Medium
from barredrows.papers import Loads, Rate, Weights
from barredrows.proofs import found_carry, found_relation, is_carry, is_relation
from barredrows.windows import endless_runs, is_endless_runs

KINDS = ("weights", "loads", "states", "fits", "misfit", "blind", "endless", "clash", "alike", "parted")
# The kinds of what follows in each claim; of a coder that is followed two at a time the states are limited.
FORMS = {
    "weights": ("medium", "rate"),
    "loads": ("medium", "rate"),
    "states": ("medium", "rate", "many"),
    "fits": ("medium", "coder"),
    "misfit": ("medium", "coder"),
    "blind": ("followed",),
    "endless": ("followed",),
    "clash": ("followed",),
    "alike": ("coder", "coder"),
    "parted": ("coder", "coder"),
}


def is_claim(value):
    """Whether any value is a claim."""
    if not isinstance(value, tuple) or not value or not isinstance(value[0], str) or value[0] not in KINDS:
        return False
    kind, *parts = value
    form = FORMS[kind]
    if len(parts) != len(form) or not all([is_part(name, part) for name, part in zip(form, parts)]):
        return False
    return form != ("coder", "coder") or parts[0].rate == parts[1].rate


def certificate_of(claim):
    """A certificate of the claim, None if it is not true."""
    check_claim(claim)
    kind, *parts = claim
    if kind in ("weights", "loads"):
        found = paper(*parts)
        return found if found.says() == kind else None
    if kind == "states":
        return found_decline(*parts)
    if kind == "fits":
        return found_carry(*parts)
    if kind == "misfit":
        return misfit(*parts)
    if kind == "blind":
        return blind_ring(*parts)
    if kind == "endless":
        return endless_runs(*parts)
    if kind == "clash":
        return clash(*parts)
    if kind == "alike":
        return found_relation(*parts)
    return parting_text(*parts)


def is_certificate(claim, value):
    """Whether any value is a certificate of the claim."""
    check_claim(claim)
    kind, *parts = claim
    if kind == "weights":
        return isinstance(value, Weights) and is_paper_of(value, *parts)
    if kind == "loads":
        return isinstance(value, Loads) and is_paper_of(value, *parts)
    if kind == "states":
        medium, rate, many = parts
        return is_decline(medium, rate, many - 1, value)
    if kind == "fits":
        return is_carry(*parts, value)
    if kind == "misfit":
        return is_misfit(*parts, value)
    if kind == "blind":
        return is_blind_ring(*parts, value)
    if kind == "endless":
        return is_endless_runs(*parts, value)
    if kind == "clash":
        return is_clash(*parts, value)
    if kind == "alike":
        return is_relation(*parts, value)
    return is_parting(*parts, value)


def found_decline(medium, rate, many):
    """A decline from many - 1, None if there are weights of at most so much."""
    lists = fallings(medium, rate, many - 1)
    return lists if max(lists[-1]) == 0 else None


def is_paper_of(value, medium, rate):
    return value.medium == medium and value.rate == rate


def is_misfit(medium, coder, value):
    """Whether any value is a text whose row is not allowed."""
    return is_text(value, coder.rate.size) and row_of(coder, value) not in medium


def is_parting(one, other, value):
    """Whether any value is a text that has different rows with both coders."""
    return is_text(value, one.rate.size) and row_of(one, value) != row_of(other, value)


def is_part(name, part):
    """Whether any value is what this name stands for in a claim."""
    if name == "medium":
        return isinstance(part, Medium)
    if name == "rate":
        return isinstance(part, Rate)
    if name == "many":
        return is_between(part, 1, MOST_WEIGHT + 1)
    return isinstance(part, Coder) and (name == "coder" or len(part) <= MOST_FOLLOWED)


def check_claim(claim):
    if not is_claim(claim):
        raise InvalidClaim(claim)
