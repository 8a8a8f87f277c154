"""What is worked out of what the house keeps: rests, need, the accounts and their limit."""

from marketaccounts.reckoning import UNITS_OF_A_CENT
from marketaccounts.refusals import BEYOND_LIMIT

LIMIT = 1000000000000000000


def rests_of_members(house):
    rests = [0] * len(house.members)
    for invoice in house.invoices:
        rests[invoice.number_of_member - 1] += invoice.rest
    return rests


def rests_of_member(house, number):
    return rests_of_members(house)[number - 1]


def need_of_member(house, number):
    member = house.members[number - 1]
    return max(0, member.unbilled + UNITS_OF_A_CENT * (rests_of_member(house, number) - member.pool))


def lack_of_member(house, number):
    # Rounded up: a part of a cent that's needed takes a whole one.
    needed_cents = -(-need_of_member(house, number) // UNITS_OF_A_CENT)
    return max(0, needed_cents - house.members[number - 1].collateral)


def signed_accounts(house):
    in_cents = [house.taxes, house.cash, -house.house_part, house.loss]
    in_units = [house.market, house.rounding]
    for member, rests in zip(house.members, rests_of_members(house)):
        in_cents.extend([rests - member.pool, -member.collateral, -member.fund_part])
        in_units.append(member.unbilled)
    return in_units + [UNITS_OF_A_CENT * cents for cents in in_cents]


def is_beyond_limit(units):
    return units < -LIMIT or units > LIMIT


# All accounts are looked at, since the document asks whether some account would be beyond,
# not only one that the call has changed.
def unless_beyond_limit(house, answer):
    if any([is_beyond_limit(units) for units in signed_accounts(house)]):
        return [BEYOND_LIMIT]
    return answer
