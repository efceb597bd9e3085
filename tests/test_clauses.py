"""Each kind of clause, act, amount and trigger, by its form and by what it names."""

from tests.samples import (
    BIG, CLAUSES, LANGUAGE_WORDS, LAST_CLAUSE, PARTIES, WORDS, Checks, agreement, odd_things, with_clause,
)

DUTIES = [clause[1] for clause in CLAUSES if clause[0] == "duty"]
OTHERS = [clause[1] for clause in CLAUSES[:-1] if clause[0] != "duty"]
NO_WORDS = list(PARTIES) + DUTIES + OTHERS + ["nowhere", "extra"]
NO_DUTIES = list(PARTIES) + [word[0] for word in WORDS] + OTHERS + ["nowhere", "extra"]
MOST_COINS = 1000000000


def duty(
    name="extra", who="ann", whom="bob", act=("send", ("ask",)), span=("days", 1), trigger=("day", 1), condition=None,
    stays=False,
):
    """Tells the agreement with this duty as its last clause."""
    return with_clause(("duty", name, who, whom, act, span, trigger, condition, stays))


def fee(name="extra", owed="settle", each=1, most=1):
    return with_clause(("fee", name, owed, each, most))


def free(name="extra", owed="give", trigger=("day", 1), condition=None):
    return with_clause(("free", name, owed, trigger, condition))


def end(name="extra", trigger=("day", 1), condition=None):
    return with_clause(("end", name, trigger, condition))


KINDS = (duty, fee, free, end)


class Clauses(Checks):
    def test_form(self):
        for kind in KINDS:
            clause = kind()[3][-1]
            self.right(with_clause(clause))
            self.wrong(with_clause(list(clause)), LAST_CLAUSE)
            self.wrong(with_clause(clause[:-1]), LAST_CLAUSE)
            self.wrong(with_clause(clause + (None,)), LAST_CLAUSE)
            self.wrong(with_clause(clause[:1]), LAST_CLAUSE)
            self.wrong(with_clause(clause[1:]), LAST_CLAUSE)
            for word in ["Duty", "pay", "clause", "word"] + odd_things():
                if word != clause[0]:
                    self.wrong(with_clause((word,) + clause[1:]), LAST_CLAUSE)

    def test_names(self):
        for kind in KINDS:
            self.right(kind(name="a"))
            self.right(kind(name="abcdefgh"))
            self.wrong(kind(name="abcdefghi"), LAST_CLAUSE)
            for name in LANGUAGE_WORDS + odd_things():
                self.wrong(kind(name=name), LAST_CLAUSE)

    def test_a_name_that_stands_already(self):
        for kind in KINDS:
            for name in list(PARTIES) + [word[0] for word in WORDS] + DUTIES + OTHERS:
                self.wrong(kind(name=name), LAST_CLAUSE)


class Duties(Checks):
    def test_who_and_whom(self):
        for who in PARTIES:
            for whom in PARTIES:
                act = ("send", ("note" if who == "bob" else "ask",))
                if who == whom or who == "cat":
                    self.wrong(duty(who=who, whom=whom, act=act), LAST_CLAUSE)
                else:
                    self.right(duty(who=who, whom=whom, act=act))
        for thing in ["dan", "ask", "give"] + odd_things():
            self.wrong(duty(who=thing), LAST_CLAUSE)
            self.wrong(duty(whom=thing), LAST_CLAUSE)

    def test_spans(self):
        for span in (("days", 1), ("days", 30), ("work", 1), ("work", 30)):
            self.right(duty(span=span))
        for span in odd_things() + [("days", 0), ("work", 31), ("days", True), ["days", 1], ("weeks", 1)]:
            self.wrong(duty(span=span), LAST_CLAUSE)

    def test_stays(self):
        self.right(duty(stays=True))
        self.right(duty(stays=False))
        for thing in odd_things() + [0, 1]:
            if thing is not True and thing is not False:
                self.wrong(duty(stays=thing), LAST_CLAUSE)

    def test_form_of_acts(self):
        for act in (
            (), ("send",), ("send", ("ask",), 1), ("send", ()), ("send", ["ask"]), ["send", ("ask",)], ("send", "ask"),
            ("give", ("ask",)), ("pay",), ("pay", ("coins", 1), 1), ["pay", ("coins", 1)], ("pay", 1),
            ("pay", ("ask",)), ("send", ("coins", 1)), ("Send", ("ask",)), (["send"], ("ask",)), ({}, ("ask",)), "send",
        ):
            self.wrong(duty(act=act), LAST_CLAUSE)
        for thing in odd_things():
            self.wrong(duty(act=thing), LAST_CLAUSE)
            self.wrong(duty(act=("send", thing)), LAST_CLAUSE)
            self.wrong(duty(act=("pay", thing)), LAST_CLAUSE)
            self.wrong(duty(act=(thing, ("ask",))), LAST_CLAUSE)

    def test_one_or_two_unlike_words_to_send(self):
        self.right(duty(act=("send", ("ask",))))
        self.right(duty(act=("send", ("ask", "tell"))))
        self.right(duty(act=("send", ("tell", "ask"))))
        self.wrong(duty(act=("send", ("ask", "tell", "ask"))), LAST_CLAUSE)
        three = duty(act=("send", ("ask", "tell", "third")))
        self.wrong(agreement(words=WORDS + (("third", "ann", None, None),), clauses=three[3]), LAST_CLAUSE)
        self.wrong(duty(act=("send", ("ask", "ask"))), LAST_CLAUSE)
        for thing in LANGUAGE_WORDS + odd_things():
            self.wrong(duty(act=("send", (thing,))), LAST_CLAUSE)
            self.wrong(duty(act=("send", ("ask", thing))), LAST_CLAUSE)

    def test_words_to_send_are_plain_and_ones_own(self):
        # back has coins, note is bob's, all else is no word.
        for name in ["back", "note", "cash"] + NO_WORDS:
            self.wrong(duty(act=("send", (name,))), LAST_CLAUSE)
            self.wrong(duty(act=("send", ("ask", name))), LAST_CLAUSE)
            self.wrong(duty(act=("send", (name, "ask"))), LAST_CLAUSE)
        self.wrong(duty(who="bob", whom="ann", act=("send", ("ask",))), LAST_CLAUSE)
        self.wrong(duty(who="bob", whom="ann", act=("send", ("cash",))), LAST_CLAUSE)
        self.right(duty(who="bob", whom="ann", act=("send", ("note",))))

    def test_coins(self):
        for many in (1, 2, MOST_COINS):
            self.right(duty(act=("pay", ("coins", many))))
        for many in (0, MOST_COINS + 1, [1], (1,), "1") + tuple(odd_things()):
            self.wrong(duty(act=("pay", ("coins", many))), LAST_CLAUSE)
        for amount in (("coins",), ("coins", 1, 1), ["coins", 1], ("coin", 1), ("Coins", 1), ("share", 1), (1, 1)):
            self.wrong(duty(act=("pay", amount)), LAST_CLAUSE)

    def test_shares(self):
        def share(top, bottom):
            return duty(act=("pay", ("share", top, bottom)), trigger=("letter", "cash"))

        for top, bottom in ((1, 1), (1, 2), (1, 1000), (1000, 1000), (999, 1000)):
            self.right(share(top, bottom))
        for top, bottom in ((0, 1), (1, 0), (0, 0), (2, 1), (1000, 999), (1, 1001), (1001, 1001), (-1, 1)):
            self.wrong(share(top, bottom), LAST_CLAUSE)
        for thing in odd_things():
            self.wrong(share(thing, 1000), LAST_CLAUSE)
            self.wrong(share(1, thing), LAST_CLAUSE)
        for amount in (("share",), ("share", 1), ("share", 1, 1, 1), ["share", 1, 1], ("Share", 1, 1), ("coins", 1, 1)):
            self.wrong(duty(act=("pay", amount), trigger=("letter", "cash")), LAST_CLAUSE)

    def test_a_share_is_one_of_a_letter_of_a_word_with_coins(self):
        act = ("pay", ("share", 1, 2))
        for name in ("cash", "back"):
            self.right(duty(act=act, trigger=("letter", name)))
        for name in ["ask", "tell", "note"] + NO_WORDS:
            self.wrong(duty(act=act, trigger=("letter", name)), LAST_CLAUSE)
        for trigger in (("day", 1), ("every", 1, 1), ("done", "give"), ("broken", "give"), ("ended",)):
            self.right(duty(trigger=trigger))
            self.wrong(duty(act=act, trigger=trigger), LAST_CLAUSE)

    def test_words_and_duties_that_are_called_like_acts_and_conditions(self):
        words = WORDS + (("share", "ann", None, ("had", "share")), ("all", "ann", None, ("had", "any")))
        words = words + (("any", "ann", None, ("all", ("had", "all"), ("had", "any"))),)
        for names in (("share",), ("all", "any"), ("any", "share")):
            for trigger in (("day", 1), ("letter", "all"), ("ended",)):
                clauses = duty(name="from", act=("send", names), trigger=trigger)[3]
                self.right(agreement(words=words, clauses=clauses))

    def test_a_duty_to_pay_wants_a_word_with_coins_from_who_to_whom(self):
        for act in (("pay", ("coins", 1)), ("pay", ("share", 1, 1))):
            for who in PARTIES:
                for whom in PARTIES:
                    thing = duty(who=who, whom=whom, act=act, trigger=("letter", "back"))
                    if (who, whom) in (("ann", "bob"), ("bob", "ann")):
                        self.right(thing)
                    else:
                        self.wrong(thing, LAST_CLAUSE)


class Triggers(Checks):
    def all_three(self, trigger, right=True):
        """Looks at a trigger of each kind of clause that has one."""
        for kind in (duty, free, end):
            if right:
                self.right(kind(trigger=trigger))
            else:
                self.wrong(kind(trigger=trigger), LAST_CLAUSE)

    def test_days(self):
        self.all_three(("day", 0))
        self.all_three(("day", 3000))
        for thing in [-1, 3001, "1", (1,), [1]] + odd_things():
            self.all_three(("day", thing), False)

    def test_steps(self):
        for first, step in ((0, 1), (0, 60), (3000, 1), (3000, 60)):
            self.all_three(("every", first, step))
        for first, step in ((-1, 1), (3001, 1), (0, 0), (0, 61), (0, -1), (BIG, 1), (0, BIG), (True, 1), (1, True)):
            self.all_three(("every", first, step), False)
        for thing in odd_things():
            self.all_three(("every", thing, 1), False)
            self.all_three(("every", 1, thing), False)

    def test_letters(self):
        for word in WORDS:
            self.all_three(("letter", word[0]))
        for name in LANGUAGE_WORDS + NO_WORDS + odd_things():
            self.all_three(("letter", name), False)

    def test_done_and_broken(self):
        for word in ("done", "broken"):
            for name in DUTIES:
                self.all_three((word, name))
            # A duty may be brought by what becomes of its own things.
            self.right(duty(trigger=(word, "extra")))
            for name in LANGUAGE_WORDS + NO_DUTIES + odd_things():
                if name != "extra":
                    self.all_three((word, name), False)
            self.wrong(free(trigger=(word, "extra")), LAST_CLAUSE)
            self.wrong(end(trigger=(word, "extra")), LAST_CLAUSE)

    def test_ended_brings_duties_alone(self):
        self.right(duty(trigger=("ended",)))
        self.wrong(free(trigger=("ended",)), LAST_CLAUSE)
        self.wrong(end(trigger=("ended",)), LAST_CLAUSE)

    def test_form(self):
        for trigger in (
            (), ("day",), ("day", 1, 1), ("every", 1), ("every", 1, 1, 1), ("letter",), ("letter", "ask", "ask"),
            ("done",), ("done", "give", "give"), ("broken",), ("ended", 1), ("ended", None), ["day", 1], ["ended"],
            ["every", 1, 1], ("had", "ask"), ("owes", "give"), ("before", 1), ("not", ("ended",)), "ended", ("Day", 1),
            (["day"], 1), ({}, 1), (("ended",),), (1, 1), (True, True), {"day": 1}, ("free", "give"), ("end", "give"),
        ):
            self.all_three(trigger, False)
        for thing in odd_things():
            self.all_three(thing, False)


class FeesFreesEnds(Checks):
    def test_numbers_of_fees(self):
        for each, most in ((1, 1), (1, MOST_COINS), (MOST_COINS, MOST_COINS), (MOST_COINS, 1)):
            self.right(fee(each=each, most=most))
        for thing in [0, -1, MOST_COINS + 1, "1", (1,)] + odd_things():
            self.wrong(fee(each=thing), LAST_CLAUSE)
            self.wrong(fee(most=thing), LAST_CLAUSE)

    def test_duties_of_fees(self):
        # answer is owed to cat by bob, last to cat by ann: no word with coins goes there.
        paid = {"give", "settle", "part", "late"}
        for name in DUTIES:
            if name in paid:
                self.right(fee(owed=name))
            else:
                self.wrong(fee(owed=name), LAST_CLAUSE)
        for name in LANGUAGE_WORDS + NO_DUTIES + odd_things():
            self.wrong(fee(owed=name), LAST_CLAUSE)

    def test_duties_that_are_freed(self):
        for name in DUTIES:
            self.right(free(owed=name))
        for name in LANGUAGE_WORDS + NO_DUTIES + odd_things():
            self.wrong(free(owed=name), LAST_CLAUSE)
