"""The calls open, member, day and item: what the house needs before there is a bill."""

from marketaccounts.accounts import is_beyond_limit, unless_beyond_limit
from marketaccounts.house import Member
from marketaccounts.refusals import ACCEPTED, BEYOND_LIMIT, HOUSE_OPEN_ALREADY, NO_ROOM, NOT_AFTER_TODAY
from marketaccounts.refusals import refusal_of_pair

MOST_MEMBERS = 16
MOST_PAIRS = 256


def open_house(house, terms, rate, house_part):
    if house.is_open:
        return [HOUSE_OPEN_ALREADY]
    house.is_open = True
    house.terms = terms
    house.rate = rate
    house.house_part = house_part
    house.cash = house_part
    return [ACCEPTED]


def add_member(house):
    if len(house.members) == MOST_MEMBERS:
        return [NO_ROOM]
    house.members.append(Member())
    return [ACCEPTED, len(house.members)]


def begin_day(house, day):
    if day <= house.today:
        return [NOT_AFTER_TODAY]
    house.today = day
    return [ACCEPTED]


def tell_item(house, number, period, amount):
    refusal = refusal_of_pair(house, number, period)
    if refusal != ACCEPTED:
        return [refusal]
    key = (number, period)
    if key not in house.pairs and len(house.pairs) == MOST_PAIRS:
        return [NO_ROOM]
    pair = house.pair_of(number, period).with_item(amount)
    if is_beyond_limit(pair.total):
        return [BEYOND_LIMIT]
    house.pairs[key] = pair
    house.members[number - 1].unbilled += amount
    house.market -= amount
    return unless_beyond_limit(house, [ACCEPTED, pair.total])
