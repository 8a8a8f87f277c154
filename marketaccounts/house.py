"""What is kept: the house, its members, their periods, their invoices and their failures."""


class Member:
    def __init__(self):
        self.unbilled = 0
        self.pool = 0
        self.collateral = 0
        self.fund_part = 0
        self.failed = False

    def twin(self):
        other = Member()
        other.unbilled = self.unbilled
        other.pool = self.pool
        other.collateral = self.collateral
        other.fund_part = self.fund_part
        other.failed = self.failed
        return other


# Pairs, invoices and failures are never changed once made, but put anew in their place:
# so the twins of a house share them.
class Pair:
    def __init__(self, total, seen, billed, tax_billed):
        self.total = total
        self.seen = seen
        self.billed = billed
        self.tax_billed = tax_billed

    def with_item(self, amount):
        return Pair(self.total + amount, self.seen, self.billed, self.tax_billed)

    def with_bill(self, cents, tax):
        return Pair(self.total, self.total, self.billed + cents, self.tax_billed + tax)

    def is_all_seen(self):
        return self.total == self.seen


class Invoice:
    def __init__(self, number_of_member, period, cents, tax, due_day, rest):
        self.number_of_member = number_of_member
        self.period = period
        self.cents = cents
        self.tax = tax
        self.due_day = due_day
        self.rest = rest

    def with_rest(self, rest):
        return Invoice(self.number_of_member, self.period, self.cents, self.tax, self.due_day, rest)

    def is_overdue(self, today):
        return self.due_day < today and self.rest > 0


class Failure:
    def __init__(self, loss, burden, nobody_not_back, others_not_back, house_not_back):
        self.loss = loss
        self.burden = burden
        self.nobody_not_back = nobody_not_back
        self.others_not_back = others_not_back
        self.house_not_back = house_not_back

    def not_back_in_all(self):
        return self.nobody_not_back + sum(self.others_not_back) + self.house_not_back

    def with_recovery(self, to_nobody, shares, to_house):
        others_not_back = [part - share for part, share in zip(self.others_not_back, shares)]
        nobody_not_back = self.nobody_not_back - to_nobody
        house_not_back = self.house_not_back - to_house
        return Failure(self.loss, self.burden, nobody_not_back, others_not_back, house_not_back)


class House:
    def __init__(self):
        self.is_open = False
        self.terms = 0
        self.rate = 0
        self.today = 0
        self.market = 0
        self.rounding = 0
        self.taxes = 0
        self.cash = 0
        self.house_part = 0
        self.loss = 0
        self.members = []
        self.pairs = {}
        self.invoices = []
        self.failures = {}
        self.closed = {}

    def pair_of(self, number, period):
        return self.pairs.get((number, period), Pair(0, 0, 0, 0))

    def twin(self):
        other = House()
        other.is_open = self.is_open
        other.terms = self.terms
        other.rate = self.rate
        other.today = self.today
        other.market = self.market
        other.rounding = self.rounding
        other.taxes = self.taxes
        other.cash = self.cash
        other.house_part = self.house_part
        other.loss = self.loss
        other.members = [member.twin() for member in self.members]
        other.pairs = dict(self.pairs)
        other.invoices = list(self.invoices)
        other.failures = dict(self.failures)
        other.closed = dict(self.closed)
        return other
