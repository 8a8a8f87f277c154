"""What is worked out of numbers alone: cents, tax, a split by weights, a loss borne."""

UNITS_OF_A_CENT = 1000
TAX_PARTS = 10000
HALF_OF_TAX_PARTS = 5000


def cents_of_total(total):
    return total // UNITS_OF_A_CENT


def tax_on_cents(cents, rate):
    return (cents * rate + HALF_OF_TAX_PARTS) // TAX_PARTS


def split_by_weights(whole, weights):
    weight_in_all = sum(weights)
    if weight_in_all == 0:
        return [0] * len(weights)
    shares = [whole * weight // weight_in_all for weight in weights]
    remainders = [whole * weight % weight_in_all for weight in weights]
    # The sort keeps equal remainders in their order, so that the earlier one comes first.
    places = sorted(range(len(weights)), key=lambda place: -remainders[place])
    for place in places[:whole - sum(shares)]:
        shares[place] += 1
    return shares


# Never changed once made: the twins of a house share it.
class Burden:
    def __init__(self, by_collateral, by_fund_part, by_house, by_nobody, by_others):
        self.by_collateral = by_collateral
        self.by_fund_part = by_fund_part
        self.by_house = by_house
        self.by_nobody = by_nobody
        self.by_others = by_others

    def as_numbers(self):
        return [self.by_collateral, self.by_fund_part, self.by_house, self.by_nobody] + self.by_others


def loss_borne(loss, collateral, fund_part, house_part, other_fund_parts):
    by_collateral = min(loss, collateral)
    left = loss - by_collateral
    by_fund_part = min(left, fund_part)
    left -= by_fund_part
    by_house = min(left, house_part)
    left -= by_house
    by_others_together = min(left, sum(other_fund_parts))
    by_others = split_by_weights(by_others_together, other_fund_parts)
    return Burden(by_collateral, by_fund_part, by_house, left - by_others_together, by_others)
