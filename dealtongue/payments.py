"""Debts of coins, and how coins are led to them."""

from dealtongue.standings import DONE, LATE, Thing


def debts_of(deal, standing, pair):
    """Lists the debts of a pair (who owes, whom), the first to be paid ahead."""
    rows = []
    for duty in list(deal.duties.values()):
        if (duty.who, duty.whom) == pair and duty.amount is not None:
            things = standing.pending[duty.name]
            rows.extend([(thing.due, duty.place, thing.number, thing) for thing in things])
    for fee in deal.fee_clauses:
        if (fee.who, fee.whom) == pair:
            growths = list(standing.unpaid[fee.name].values())
            rows.extend([(growth.due, fee.place, growth.number, growth) for growth in growths])
    rows = sorted(rows, key=lambda row: (row[0], row[1], row[2]))
    return [row[3] for row in rows]


def lead_coins(deal, standing, pair, coins):
    """Leads coins to the debts of a pair, and puts by what is left; lists the things that are done by it."""
    debts = debts_of(deal, standing, pair)
    for debt in debts:
        used = min(coins, debt.left)
        standing.pay(debt, used)
        coins -= used
    standing.keep(pair, coins)
    return [debt for debt in debts if isinstance(debt, Thing) and debt.how == DONE]


def lead_put_by(deal, standing):
    """Leads all that is put by to debts; lists the things that are done by it."""
    done = []
    for sender in deal.parties:
        for payee in deal.parties:
            pair = (sender, payee)
            if pair in standing.purses and debts_of(deal, standing, pair):
                coins = standing.take_out(pair)
                done.extend(lead_coins(deal, standing, pair, coins))
    return done


def late_things(standing):
    """Lists the things that are late."""
    found = []
    for duty in standing.pending:
        found.extend([thing for thing in standing.pending[duty] if thing.how == LATE])
    return found


def grow_fees(deal, standing, things, evenings):
    """Lets the fees for late things grow on so many evenings; tells on how many of them some fee did."""
    grew = 0
    for fee in deal.fee_clauses:
        for thing in things:
            if thing.duty == fee.duty:
                grew = max(grew, standing.grow(fee, thing, evenings))
    return grew
