"""How the tests ask calls, row by row, and look into a house."""

from marketaccounts.desk import answers, house_and_answer
from marketaccounts.house import House

(OPEN, MEMBER, DAY, ITEM, BILL, BILL_ALL, PAY, REFUND, DEPOSIT, RELEASE, FUND, FAIL, RECOVER, CLOSE, TOTAL, INVOICE,
 INVOICES, BALANCE, SHORT, OVERDUE, LEDGER, TAXES, FAILURE, PREVIEW, RECKON, LOSS) = range(26)

E15 = 10 ** 15
E18 = 10 ** 18


def flat(rows):
    return [number for row in rows for number in row]


def apart(told):
    """The answers of a list of answers, one list each."""
    found = []
    at = 0
    while at < len(told):
        found.append(told[at + 1:at + 1 + told[at]])
        at += 1 + told[at]
    return found


def ask(rows):
    """The answers to these rows, through the interface."""
    found = apart(answers(flat(rows)))
    if len(found) != len(rows):
        raise AssertionError("not one answer a call")
    return found


def ask_behind(before, rows):
    """The answers to rows alone; every row before them must be accepted."""
    found = ask(before + rows)
    for row, answer in zip(before, found):
        if answer[0] != 0:
            raise AssertionError(f"{row} was refused with {answer}")
    return found[len(before):]


def house_behind(rows):
    """The house behind these rows, all of which must be accepted."""
    house = House()
    for row in rows:
        house, answer = house_and_answer(house, row[0], list(row[1:]))
        if answer[0] != 0:
            raise AssertionError(f"{row} was refused with {answer}")
    return house


def ask_house(house, row):
    """The answer to one row asked of this house, which stays as it is."""
    return house_and_answer(house, row[0], list(row[1:]))[1]


def step(house, row):
    return house_and_answer(house, row[0], list(row[1:]))


def snapshot(value):
    """All that a value holds, as something that can be compared."""
    if isinstance(value, (list, tuple)):
        return [snapshot(part) for part in value]
    if isinstance(value, dict):
        return [(key, snapshot(part)) for key, part in value.items()]
    if hasattr(value, "__dict__"):
        return [(key, snapshot(part)) for key, part in vars(value).items()]
    return value
