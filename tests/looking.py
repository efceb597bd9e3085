"""What the tests of all conduct share: agreements without coins told by rows, and such as are too wide or have coins."""

from dealtongue.texts import read_agreement

HEAD = ("parties ann bob", "word ask by ann", "word note by bob", "word tell by ann")


def plain(*rows, head=HEAD):
    """Tells the agreement of these rows behind those of the head."""
    return read_agreement("\n".join(head + rows))


def plain_rested(rest, *rows):
    """Tells the agreement of these rows and a rest."""
    parties, _, words, clauses = plain(*rows)
    return (parties, rest, words, clauses)


def worded(whole, **conditions):
    """Tells the agreement with these conditions on its words."""
    parties, rest, words, clauses = whole
    return (parties, rest, tuple(word[:3] + (conditions.get(word[0], word[3]),) for word in words), clauses)


GIVE = "duty give : ann must send ask to bob within {} after {}"
SPARE = "end spare : after broken give while ended"

NARROW = plain(GIVE.format("3 work", "letter note"), "duty back : bob must send note to ann within 3 days after day 10",
               "free them : give after every 4 from 10 while before 10", "end over : after day 10 while not before 10")
COINS = plain("end over : after day 1", head=HEAD + ("word cash by ann to bob",))

# Each is wider than it may be by one thing alone.
WIDE = (
    plain("end over : after day 1", head=HEAD + ("word more by bob",)),
    plain(*[f"duty {name} : ann must send ask to bob within 1 days after day 1" for name in ("da", "db", "dc")]),
    plain(GIVE.format("4 days", "day 1")), plain(GIVE.format("4 work", "day 1")), plain(GIVE.format("30 days", "day 1")),
    plain(GIVE.format("1 days", "day 11")), plain("end over : after day 11"), plain("end over : after every 1 from 11"),
    plain(GIVE.format("1 days", "day 1") + " while before 11"),
    plain("end over : after day 1 while not ( ended or before 3000 )"),
    worded(plain("end over : after day 1"), ask=("not", ("before", 11))),
    plain_rested(((), (3, 11)), GIVE.format("1 days", "day 1")),
    plain(GIVE.format("1 days", "every 5 from 1")), plain("end over : after every 60 from 1"),
    plain_rested(((5,), ()), "end over : after every 1 from 1"),
    plain(GIVE.format("1 days", "letter note"), "duty back : bob must send note to ann within 1 days after letter ask"),
    plain(GIVE.format("1 days", "every 1 from 1"), "duty back : bob must send note to ann within 1 days after every 2 from 1"),
    plain(GIVE.format("1 days", "letter note"), "duty back : bob must send note to ann within 1 days after every 2 from 1"),
)
