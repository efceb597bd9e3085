"""Debts of coins, and how coins are led to them."""

from dealtongue.standings import DONE, LATE, Thing

PUT_BY = ("put by",)


def debts_of(deal, standing, pair):
    """Lists the debts of a pair (who owes, whom), the first to be paid ahead."""
    rows = []
    for duty in list(deal.duties.values()):
        if (duty.who, duty.whom) == pair and duty.amount is not None:
            rows.extend([(0, thing.due, duty.place, thing.number, thing) for thing in standing.pending[duty.name]])
    for growth in list(standing.unpaid.values()):
        if growth.pair == pair:
            rows.append(fee_rank(deal, growth) + (growth,))
    rows = sorted(rows, key=lambda row: (row[0], row[1], row[2], row[3]))
    return [row[4] for row in rows]


def fee_rank(deal, growth):
    """Tells of what a fee has grown by what it goes among the debts of its pair.

    Of fees that the text hasn't it stands behind all others, so that days and names never meet.
    """
    if (growth.fee, growth.duty) in deal.fee_places:
        return (0, growth.due, deal.fee_places[growth.fee, growth.duty], growth.number)
    return (1, growth.fee, growth.duty, growth.number)


def lead_coins(standing, debts, pair, coins, source, cause):
    """Leads coins of a source to the debts of a pair, one behind the other; tells what is left."""
    sender, payee = pair
    for debt in debts:
        used = min(coins, debt.left)
        if used > 0:
            standing.rows.append((standing.day, source, sender, payee, debt.goal(), used))
            standing.pay(debt, used, cause)
            coins -= used
    return coins


def things_done(debts):
    """Lists the things among these debts that are done."""
    return [debt for debt in debts if isinstance(debt, Thing) and debt.how == DONE]


def lead_letter(deal, standing, letter):
    """Leads the coins of a letter to debts, and puts by what is left; lists the things that are done by it."""
    said, turn, sender, word, coins = letter
    _, payee, _ = deal.words[word]
    pair = (sender, payee)
    source = ("letter", said, turn)
    debts = debts_of(deal, standing, pair)
    left = lead_coins(standing, debts, pair, coins, source, ("counts", said, turn))
    if left > 0:
        standing.rows.append((standing.day, source, sender, payee, PUT_BY, left))
        standing.keep(pair, left)
    return things_done(debts)


def lead_put_by(deal, standing):
    """Leads all that is put by to debts; lists the things that are done by it."""
    done = []
    if not standing.purses:
        return done
    for sender in deal.parties:
        for payee in deal.parties:
            pair = (sender, payee)
            if pair in standing.purses:
                done.extend(lead_purse(deal, standing, pair))
    return done


def lead_purse(deal, standing, pair):
    """Leads what is put by for a pair to debts; lists the things that are done by it."""
    debts = debts_of(deal, standing, pair)
    if not debts:
        return []
    coins = standing.take_out(pair)
    left = lead_coins(standing, debts, pair, coins, PUT_BY, last_that_paid(standing, pair))
    if left > 0:
        standing.keep(pair, left)
    return things_done(debts)


def last_that_paid(standing, pair):
    """Tells the happening of the last letter with coins of a pair that counted."""
    told = [row for row in standing.rows if row[1] != PUT_BY and row[2:4] == pair]
    _, said, turn = told[-1][1]
    return ("counts", said, turn)


def late_things(standing):
    """Lists the things that are late."""
    found = []
    for duty in standing.pending:
        found.extend([thing for thing in standing.pending[duty] if thing.how == LATE])
    return found


def grow_fees(deal, standing, things, evenings):
    """Lets the fees for late things grow on so many evenings; tells on how many of them some fee did."""
    grew = 0
    for fee in deal.fee_clauses:
        for thing in things:
            if thing.duty == fee.duty:
                grew = max(grew, standing.grow(fee, thing, evenings))
    return grew


def still_grows(standing, fee):
    """Tells whether a fee grows in the next evening, if nothing else happens."""
    late = [thing for thing in standing.pending[fee.duty] if thing.how == LATE]
    return any([standing.grown_for(fee, thing) < fee.most for thing in late])
