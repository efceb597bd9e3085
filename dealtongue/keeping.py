"""Whether a party can keep its duties whatever the others send, and what each is to send."""

from dealtongue.bounds import refuse_coins, refuse_too_wide
from dealtongue.days import refuse_no_day
from dealtongue.errors import NoClause, NoLetters
from dealtongue.games import Game
from dealtongue.letters import letters_by_day
from dealtongue.machines import Machine
from dealtongue.refusals import refuse_no_agreement, refuse_no_letters


def fate(agreement, party, *, letters=None, day=0):
    """Tells the day by whose evening the others can bring it that a party breaks a duty, None where they can't."""
    told = [] if letters is None else letters
    refuse_to_play(agreement, [party])
    refuse_no_day(day)
    refuse_no_turns(agreement, told, (day, 1))
    refuse_too_wide(agreement, None)
    days = game_at(agreement, party, told, day).fate()
    return None if days is None else day + days


def sends(agreement, party, mover, letters, day):
    """Tells the word that the mover sends so that a party's fate stays what it is, None where it sends none."""
    refuse_to_play(agreement, [party, mover])
    refuse_no_day(day)
    turn = agreement[0].index(mover)
    refuse_no_turns(agreement, letters, (day, turn + 1))
    refuse_too_wide(agreement, None)
    return game_at(agreement, party, letters, day).best_word(turn)


def refuse_to_play(agreement, parties):
    """Refuses what is no agreement, has coins, or hasn't one of these parties."""
    refuse_no_agreement(agreement)
    refuse_coins(agreement)
    for party in parties:
        if party not in agreement[0]:
            raise NoClause(party)


def refuse_no_turns(agreement, letters, turn):
    """Refuses what is no list of letters said in turns, all ahead of a turn: (day, place of a party, from 1)."""
    refuse_no_letters(letters)
    places = {party: at for at, party in enumerate(agreement[0], start=1)}
    for letter in letters:
        if places.get(letter[2]) != letter[1] or letter[:2] >= turn:
            raise NoLetters("letters in turns are wanted")


def game_at(agreement, party, letters, day):
    """Tells the game of a party behind letters, from a day on."""
    machine = Machine(agreement, None, False)
    place = place_behind(machine, letters_by_day(letters), day)
    return Game(machine, party, machine.day_like(day), place)


def place_behind(machine, by_day, last):
    """Tells the place behind the letters of a day, and of all days ahead of it."""
    place = behind_letters(machine, machine.beginning(), 0, by_day.get(0, []))
    for real_day in range(1, last + 1):
        behind, _ = machine.evening(place, machine.day_like(real_day - 1))
        day = machine.day_like(real_day)
        place = behind_letters(machine, machine.dawn(behind, day), day, by_day.get(real_day, []))
    return place


def behind_letters(machine, place, day, letters):
    """Tells the place behind the letters of a day."""
    found = place
    for _, _, sender, word, coins in letters:
        view = machine.view_of(found)
        for at in machine.words_at(day, view):
            # Each name stands for one word: at most one of them is sent.
            if machine.words[at][:2] == (word, sender) and coins == 0:
                found = machine.send(found, day, view, at)
    return found
