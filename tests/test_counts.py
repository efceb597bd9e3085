"""Promise 9: which letters count, and that idle ones do nothing."""

from dealtongue.reckoner import reckoned
from tests.makers import made
from tests.oracle import Oracle, told_of
from tests.reckons import HEAD, Reckons, deal, said
from dealtongue.texts import read_agreement

END = "end over : after day 3000"


def worded(*rows):
    """An agreement with words of its own."""
    return read_agreement("\n".join(("parties ann bob cat",) + rows))


class Counts(Reckons):
    def test_the_word_is_told(self):
        for word in ("ask", "note", "cash", "back"):
            coins = 1 if word in ("cash", "back") else 0
            sender = "ann" if word in ("ask", "cash") else "bob"
            self.had(deal(END), [(4, 1, sender, word, coins)], 4, word)
        for word in ("other", "over", "ann", "word", "coins", "a"):
            for coins in (0, 1):
                self.had(deal(END), [(4, 1, "ann", word, coins)], 4)

    def test_the_sender_is_the_words(self):
        for sender in ("bob", "cat", "ask", "duty", "dan"):
            self.had(deal(END), [(4, 1, sender, "ask", 0)], 4)
            self.had(deal(END), [(4, 1, sender, "cash", 5)], 4)
        for sender in ("ann", "cat"):
            self.had(deal(END), [(4, 1, sender, "back", 5)], 4)

    def test_coins(self):
        self.had(deal(END), said("4 ask 1"), 4)
        self.had(deal(END), said("4 ask 1000000000"), 4)
        self.had(deal(END), said("4 cash 0"), 4)
        self.had(deal(END), said("4 cash 1"), 4, "cash")
        self.had(deal(END), said("4 cash 1000000000"), 4, "cash")
        self.assertEqual(self.state(deal(END), said("4 cash 0", "4.2 back 0", "4.3 ask 7"), 4).put_by(), {})

    def test_each_part_is_asked(self):
        letters = [(1, 1, "ann", "ask", 1), (1, 2, "bob", "ask", 0), (1, 3, "ann", "asks", 0), (1, 4, "bob", "cash", 1)]
        self.had(deal(END), letters, 9)
        self.had(deal(END), letters + [(1, 5, "ann", "ask", 0)], 9, "ask")

    def test_letters_behind_the_last_day(self):
        letters = said("4 ask", "5 note", "3000.99 cash 1")
        self.had(deal(END), letters, 3)
        self.had(deal(END), letters, 4, "ask")
        self.had(deal(END), letters, 5, "ask", "note")
        self.had(deal(END), letters, 2999, "ask", "note")
        self.had(deal(END), letters, 3000, "ask", "cash", "note")


class Conditions(Reckons):
    def test_in_the_state_ahead_of_the_letter(self):
        whole = worded("word ask by ann", "word note by bob while had ask", END)
        self.had(whole, said("4.1 note", "4.2 ask"), 4, "ask")
        self.had(whole, said("4.1 ask", "4.2 note"), 4, "ask", "note")
        self.had(whole, said("4.99 ask", "5.1 note"), 5, "ask", "note")
        self.had(whole, said("4.1 note", "4.2 ask", "4.3 note"), 4, "ask", "note")

    def test_not_in_the_state_behind_the_letter(self):
        """A word that may be sent once: the second one does nothing."""
        whole = worded("word cash by ann to bob while not had cash", "word ask by ann while had ask", END)
        self.assertEqual(self.state(whole, said("4.1 cash 5", "4.2 cash 7", "9 cash 1"), 9).put_by(),
                         {("ann", "bob"): 5})
        self.had(whole, said("4.1 ask", "4.2 ask", "5 ask"), 9)

    def test_before(self):
        whole = worded("word ask by ann while before 5", "word note by bob while not before 5", END)
        self.had(whole, said("4.99 ask", "4.98 note"), 9, "ask")
        self.had(whole, said("5.1 ask", "5.2 note"), 9, "note")
        self.had(worded("word ask by ann while before 0", END), said("0 ask"), 9)
        self.had(worded("word ask by ann while before 3000", END), said("3000 ask"), 3000)

    def test_owes(self):
        rows = ("word ask by ann", "word note by bob while owes give")
        whole = worded(*rows, "duty give : ann must send ask to bob within 2 days after day 4")
        self.had(whole, said("3.99 note"), 9)
        self.had(whole, said("4.1 note"), 9, "note")
        self.had(whole, said("4.1 ask", "4.2 note"), 9, "ask")
        # Late ones are owed, too.
        self.had(whole, said("7 note"), 9, "note")
        self.had(whole, said("7.1 ask", "7.2 note"), 9, "ask")

    def test_owes_what_is_brought_in_the_evening(self):
        rows = ("word ask by ann", "word note by bob while owes more")
        whole = worded(*rows, "duty give : ann must send ask to bob within 1 days after day 4",
                       "duty more : ann must send ask to bob within 9 days after broken give")
        self.had(whole, said("5.99 note"), 9)
        self.had(whole, said("6.1 note"), 9, "note")

    def test_broken(self):
        rows = ("word ask by ann", "word note by bob while broken give")
        whole = worded(*rows, "duty give : ann must send ask to bob within 1 days after day 4")
        self.had(whole, said("5.99 note"), 9)
        self.had(whole, said("6.1 note"), 9, "note")
        self.had(whole, said("6.1 ask", "6.2 note", "9 note"), 9, "ask", "note")
        self.had(whole, said("5.1 ask", "6.2 note", "9 note"), 9, "ask")

    def test_ended(self):
        whole = worded("word ask by ann while ended", "word note by bob while not ended", "end over : after day 4")
        self.had(whole, said("3 ask"), 9)
        self.had(whole, said("4.1 ask", "4.2 note"), 9, "ask")
        self.had(whole, said("3.99 note"), 9, "note")

    def test_all_any_not(self):
        whole = worded("word ask by ann", "word note by bob", "word both by cat while ( had ask and had note )",
                       "word some by cat while ( had ask or had note )",
                       "word none by cat while not ( had ask or had note )",
                       "word three by cat while ( had ask and not had note and before 9 )", END)
        for words, may in (
            ((), ["ask", "none", "note"]),
            (("ask",), ["ask", "note", "some", "three"]),
            (("note",), ["ask", "note", "some"]),
            (("ask", "note"), ["ask", "both", "note", "some"]),
        ):
            letters = said(*[f"4.{turn} {word}" for turn, word in enumerate(words, 1)])
            letters += [(4, 11, "cat", "both", 0), (4, 12, "cat", "some", 0), (4, 13, "cat", "none", 0),
                        (4, 14, "cat", "three", 0)]
            counted = [word for word in may if word in ("both", "some", "none", "three")] + list(words)
            self.assertEqual(self.state(whole, letters, 4).had(), sorted(counted))
            self.assertEqual(self.state(whole, letters[:len(words)], 4).may(), may)


class Idle(Reckons):
    def test_idle_letters_do_nothing(self):
        rows = ("duty give : ann must send ask to bob within 9 days after letter note",
                "duty settle : ann must pay 9 coins to bob within 9 days after letter ask",
                "free spare : give after letter cash", "end over : after letter back")
        whole = read_agreement("\n".join((HEAD[0],) + tuple(row + " while before 4" for row in HEAD[1:]) + rows))
        brought = said("2 note", "3 ask", "3.2 note")
        letters = brought + said("4.1 ask", "4.2 note", "4.3 cash 5", "4.4 back 5")
        self.assertEqual(told_of(self.state(whole, letters, 9)), told_of(self.state(whole, brought, 9)))
        self.assertNotEqual(told_of(self.state(deal(*rows), letters, 9)), told_of(self.state(whole, brought, 9)))

    def test_a_letter_that_no_thing_wants(self):
        rows = ("duty give : ann must send ask to bob within 9 days after day 4",)
        with_it = told_of(self.state(deal(*rows), said("3 ask", "4 note"), 9))
        without = told_of(self.state(deal(*rows), [], 9))
        self.assertEqual(with_it.pop("had"), ["ask", "note"])
        self.assertEqual(without.pop("had"), [])
        self.assertEqual(with_it, without)

    def test_a_list_without_its_idle_letters(self):
        idle = 0
        for seed in range(60):
            agreement, letters = made(seed)
            oracle = Oracle(agreement, letters)
            oracle.days(60)
            counting = list(oracle.heard)
            idle += len(letters) - len(counting)
            self.assertEqual(told_of(reckoned(agreement, counting, 60)), told_of(reckoned(agreement, letters, 60)))
        self.assertGreater(idle, 100)
