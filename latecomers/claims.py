"""Claims about a listener, and joint claims about it and a late one."""

from latecomers.errors import NoClaims
from latecomers.tables import has_all_keys
from latecomers.values import is_list_of, is_vector, vanishes

MOST_CLAIMS = 3
MOST_JOINT_CLAIMS = 7


def check_claims(listener, value):
    """Raise NoClaims if the value does not have, for each control, 0 to 3 forms over the cells."""
    width = 1 + listener.cell_count()
    if not is_list_of(value, listener.control_count()):
        raise NoClaims()
    if not all([are_forms(MOST_CLAIMS, width, forms) for forms in value]):
        raise NoClaims()


def check_joint_claims(hearers, value):
    """Raise NoClaims if the value does not have, for exactly all keys, 0 to 7 forms."""
    if not has_all_keys(hearers, value):
        raise NoClaims()
    if not all([are_forms(MOST_JOINT_CLAIMS, hearers.width, value[key]) for key in value]):
        raise NoClaims()


def are_forms(most, width, value):
    """Tell whether the value is a list of at most so many forms of this width."""
    if not isinstance(value, list) or len(value) > most:
        return False
    return all([is_vector(form, width) for form in value])


def claims_by_key(hearers, claims):
    """Return the claims of each key's control; the states do not matter to them."""
    return {key: claims[key[1]] for key in hearers.all_keys()}


def first_broken(claims, bases):
    """Return the first key of the table and the index of its first claim that does not vanish there, or None."""
    for key in sorted(bases):
        for index, form in enumerate(claims[key]):
            if not vanishes(form, bases[key]):
                return key, index
    return None


def all_hold(claims, states, one, other):
    """Tell whether at each of these states all claims of the key hold at the pair of stands."""
    vector = [1, *one[1], *other[1]]
    return all([vanishes(form, [vector]) for state in states for form in claims[state, one[0], other[0]]])
