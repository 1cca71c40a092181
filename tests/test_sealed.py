"""mirrorbook/sealed.py: [7.1] Pairs, [7.2] What places tell, [7.3] Asked about one letter."""

import unittest
from itertools import product
from random import Random

from mirrorbook.books import Book
from mirrorbook.errors import BadSet, BadWord
from mirrorbook.pairs import Pair, told_by
from mirrorbook.sealed import (
    does_tell_apart,
    heard,
    judge_letter,
    letter_holds,
    message_of,
    noise_of,
    opening,
    sealed,
)
from tests import brute, sealing
from tests.samples import Case, any_values, changes, is_letters, is_places, others

SMALL = sealing.small_pairs(80, each=2, most_words=140)
EIGHTS = sealing.eight_pairs()
P = Pair(Book(3, 3, ((1, 0, 2), (0, 1, 2))), Book(3, 3, ((1, 1, 1),)))


def no_letters(q, many):
    """Values that are not so many letters."""
    near = [(0,) * (many + 1), (q,) * many, (-1,) * many, (True,) * many, [0] * many, ("0",) * many]
    near = [thing for thing in near if not fits_letters(q, many, thing)]
    return near + others(lambda thing: fits_letters(q, many, thing))


def fits_letters(q, many, thing):
    return is_letters(q, thing) and len(thing) == many


def no_wishes(q, many):
    return [(0,) * many, *no_letters(q, many)]


def no_sets(n):
    return [(n,), (0, 0), (1, 0), (-1,), [0], *others(lambda thing: is_places(n, thing))]


def wishes_of(one):
    return [wish for wish in one.messages if any(wish)]


def is_paper(one, places, wish, thing):
    """Whether any value is a right paper of [7.3], by all sealed words."""
    if type(thing) is not tuple or len(thing) != 2 or not fits_letters(one.q, one.n, thing[1]):
        return False
    kind, word = thing
    if kind == "key":
        if not set(brute.support(word)) <= set(places):
            return False
        return all(
            brute.product_of(one.q, word, seal) == brute.product_of(one.q, message, wish)
            for seal, (message, _) in one.seals.items()
        )
    if kind != "alibi" or word not in one.seals or any(word[place] for place in places):
        return False
    return brute.product_of(one.q, one.seals[word][0], wish) != 0


class Words(Case):
    def test_all_messages_and_noises(self):
        for one in SMALL + EIGHTS:
            pair = one.pair()
            for word, (message, noise) in one.seals.items():
                self.assert_same(sealed(pair, message, noise), word)
                self.assert_same((message_of(pair, word), noise_of(pair, word)), (message, noise))
            word = one.words[-1]
            message, noise = one.seals[word]
            self.assert_call(word, sealed, pair=pair, message=message, noise=noise)
            self.assert_call(message, message_of, pair=pair, word=word)
            self.assert_call(noise, noise_of, pair=pair, word=word)

    def test_each_word_comes_from_one_message_and_noise(self):
        for one in SMALL + EIGHTS:
            pair = one.pair()
            found = [sealed(pair, message, noise) for message in one.messages for noise in one.noises]
            self.assertEqual(sorted(found), one.words)

    def test_messages_and_noises_that_are_none(self):
        for one in (SMALL[0], SMALL[9], SMALL[-1], EIGHTS[0], EIGHTS[3]):
            pair = one.pair()
            checks = [
                ("message", BadWord, no_letters(one.q, one.h)),
                ("noise", BadWord, no_letters(one.q, len(one.small))),
            ]
            right = {"pair": pair, "message": one.messages[-1], "noise": one.noises[-1]}
            self.assert_errors(sealed, right, checks)

    def test_words_that_are_not_in_the_big_book(self):
        for one in (SMALL[0], SMALL[9], SMALL[-1], EIGHTS[0], EIGHTS[3]):
            wrong = others(lambda thing: fits_letters(one.q, one.n, thing) and thing in one.seals)
            wrong += [(True,) * one.n, (0,) * (one.n + 1), list(one.words[-1]), *outside(one)]
            for call in (message_of, noise_of):
                self.assert_errors(call, {"pair": one.pair(), "word": one.words[0]}, [("word", BadWord, wrong)])


def outside(one):
    """Some words that are not in the big book."""
    random = Random(81)
    drawn = [tuple(random.randrange(one.q) for _ in range(one.n)) for _ in range(30)]
    return [word for word in drawn if word not in one.seals]


class Heard(Case):
    def assert_heard(self, one, places, hearing, found):
        """What is heard, held against the messages of all sealed words that have the hearing."""
        messages = sorted(set(found.get(hearing, [])))
        wanted = None
        if messages:
            apart = {difference(one.q, first, messages[0]) for first in messages}
            wanted = (messages[0], brute.reduced(one.q, one.h, sorted(apart)))
        self.assert_call(wanted, heard, pair=one.pair(), places=places, hearing=hearing)
        return wanted

    def test_every_hearing_of_every_set(self):
        met = set()
        for one in SMALL:
            for places in brute.sets(one.n):
                found = one.heard_messages(places)
                for hearing in product(range(one.q), repeat=len(places)):
                    if len(places) < 4 or hearing[0] == 0:
                        wanted = self.assert_heard(one, places, hearing, found)
                        met.add(None if wanted is None else len(wanted[1]))
        self.assertEqual(met, {None, 0, 1, 2, 3, 4, 5})

    def test_how_many_messages_there_are(self):
        for one in SMALL + EIGHTS:
            for places in brute.sets(one.n)[:: 1 if one.n < 8 else 11]:
                hearing = tuple(one.words[-1][place] for place in places)
                rows = heard(one.pair(), places, hearing)[1]
                self.assertEqual(len(rows), one.h - told_by(one.pair(), places))

    def test_eight_places(self):
        random = Random(82)
        for one in EIGHTS:
            for places in random.sample(brute.sets(8), 25):
                found = one.heard_messages(places)
                word = random.choice(one.words)
                self.assert_heard(one, places, tuple(word[place] for place in places), found)
                self.assert_heard(one, places, tuple(random.randrange(one.q) for _ in places), found)

    def test_errors(self):
        for one in (SMALL[5], SMALL[-1], EIGHTS[3]):
            pair = one.pair()
            for places in ((), (0,), tuple(range(one.n))):
                hearings = ("hearing", BadWord, no_letters(one.q, len(places)))
                right = {"pair": pair, "places": places, "hearing": (1,) * len(places)}
                self.assert_errors(heard, right, [("places", BadSet, no_sets(one.n)), hearings])


def difference(q, one, other):
    return brute.word_plus(q, one, tuple(brute.minus(q, letter) for letter in other))


class Letters(Case):
    def assert_judged(self, one, places, wish):
        pair = one.pair()
        paper = judge_letter(pair, places, wish)
        self.assertTrue(is_paper(one, places, wish, paper), (places, wish, paper))
        self.assertIs(letter_holds(pair, places, wish, paper), True)
        zero = [message for word, (message, _) in one.seals.items() if not any(word[place] for place in places)]
        has_alibi = any(brute.product_of(one.q, message, wish) for message in zero)
        self.assertEqual(paper[0], "alibi" if has_alibi else "key")
        return paper

    def test_every_set_and_wish(self):
        kinds = set()
        for one in SMALL:
            for places in brute.sets(one.n):
                for wish in wishes_of(one)[:30]:
                    paper = self.assert_judged(one, places, wish)
                    kinds.add((one.q, paper[0]))
                self.assert_call(paper, judge_letter, pair=one.pair(), places=places, wish=wish)
        self.assertEqual(kinds, set(product((2, 3, 4, 5), ("key", "alibi"))))

    def test_eight_places(self):
        random = Random(83)
        for one in EIGHTS:
            for places in random.sample(brute.sets(8), 12) + [(), tuple(range(8))]:
                for wish in random.sample(wishes_of(one), min(3, len(wishes_of(one)))):
                    self.assert_judged(one, places, wish)

    def test_every_word_in_a_paper(self):
        """Each word of all letters is held to be a key or an alibi just if it is one."""
        many = {"key": 0, "alibi": 0}
        for one in SMALL:
            if one.q**one.n > 256:
                continue
            for places in brute.sets(one.n)[::3]:
                for wish in wishes_of(one)[:2]:
                    for word in brute.all_words(one.q, one.n):
                        for kind in many:
                            wanted = is_paper(one, places, wish, (kind, word))
                            many[kind] += wanted
                            self.assertIs(letter_holds(one.pair(), places, wish, (kind, word)), wanted)
        self.assertGreater(min(many.values()), 100)

    def test_papers_changed_in_one_place(self):
        for one in SMALL[::4]:
            for places in brute.sets(one.n)[::2]:
                wish = wishes_of(one)[-1]
                paper = judge_letter(one.pair(), places, wish)
                for thing in changes(paper):
                    wanted = is_paper(one, places, wish, thing)
                    self.assertIs(letter_holds(one.pair(), places, wish, thing), wanted, thing)

    def test_any_other_values(self):
        for one in (SMALL[3], EIGHTS[0]):
            for thing in any_values() + [("key", one.pair()), ("alibi", one.pair().big), ("key", (0,) * 3000)]:
                given = {"pair": one.pair(), "places": (0,), "wish": wishes_of(one)[0], "thing": thing}
                self.assert_call(False, letter_holds, **given)

    def test_errors(self):
        for one in (SMALL[5], SMALL[-1], EIGHTS[1]):
            checks = [("places", BadSet, no_sets(one.n)), ("wish", BadWord, no_wishes(one.q, one.h))]
            right = {"pair": one.pair(), "places": (0,), "wish": (1,) * one.h}
            self.assert_errors(judge_letter, right, checks)
            self.assert_errors(letter_holds, {**right, "thing": None}, checks)


class Openings(Case):
    def test_keys_for_all_letters(self):
        opened = 0
        for one in SMALL + EIGHTS:
            pair = one.pair()
            for places in brute.sets(one.n)[:: 1 if one.n < 8 else 5]:
                found = opening(pair, places)
                if told_by(pair, places) < one.h:
                    self.assertIsNone(found)
                    continue
                opened += 1
                self.assertTrue(type(found) is tuple and len(found) == one.h)
                for at, word in enumerate(found):
                    wish = tuple(int(i == at) for i in range(one.h))
                    self.assertTrue(is_paper(one, places, wish, ("key", word)))
                    self.assertEqual(judge_letter(pair, places, wish)[0], "key")
                self.assert_call(found, opening, pair=pair, places=places)
        self.assertGreater(opened, 100)

    def test_keys_open_each_sealed_word(self):
        for one in SMALL[::3]:
            found = opening(one.pair(), tuple(range(one.n)))
            for word, (message, _) in one.seals.items():
                self.assertEqual(tuple(brute.product_of(one.q, key, word) for key in found), message)

    def test_errors(self):
        for one in (SMALL[5], EIGHTS[0]):
            self.assert_errors(opening, {"pair": one.pair(), "places": ()}, [("places", BadSet, no_sets(one.n))])


class Apart(Case):
    def test_listed_hearings(self):
        told = {True: 0, False: 0}
        random = Random(84)
        for one in SMALL:
            for places in brute.sets(one.n):
                found = [set(messages) for messages in one.heard_messages(places).values()]
                for first in random.sample(one.messages, min(4, len(one.messages))):
                    for second in one.messages[:12] + [first]:
                        both = any({first, second} <= messages for messages in found)
                        told[not both] += 1
                        given = {"pair": one.pair(), "places": places, "one": first, "other": second}
                        self.assertIs(does_tell_apart(**given), not both)
                self.assert_call(not both, does_tell_apart, **given)
        self.assertGreater(min(told.values()), 300)

    def test_equal_messages_are_never_told_apart(self):
        for one in SMALL + EIGHTS:
            for places in ((), (0,), tuple(range(one.n))):
                for message in one.messages[::7]:
                    self.assertIs(does_tell_apart(one.pair(), places, message, message), False)

    def test_eight_places(self):
        for one in EIGHTS:
            for first, second in zip(one.messages, one.messages[1:]):
                self.assertIs(does_tell_apart(one.pair(), tuple(range(8)), first, second), True)
                self.assertIs(does_tell_apart(one.pair(), (), first, second), False)

    def test_errors(self):
        for one in (SMALL[5], SMALL[-1], EIGHTS[0]):
            messages = no_letters(one.q, one.h)
            checks = [("places", BadSet, no_sets(one.n)), ("one", BadWord, messages), ("other", BadWord, messages)]
            right = {"pair": one.pair(), "places": (0,), "one": one.messages[0], "other": one.messages[-1]}
            self.assert_errors(does_tell_apart, right, checks)


class WorkedOut(Case):
    """The examples of the document."""

    def test_three_letters(self):
        self.assert_call((1, 0, 2), sealed, pair=P, message=(2,), noise=(1,))
        self.assert_call((2,), message_of, pair=P, word=(1, 0, 2))
        self.assert_call(("key", (2, 1, 0)), judge_letter, pair=P, places=(0, 1), wish=(1,))
        self.assert_call(True, letter_holds, pair=P, places=(0,), wish=(1,), thing=("alibi", (0, 1, 2)))
        self.assertEqual(judge_letter(P, (0,), (1,))[0], "alibi")
        self.assert_call(((2,), ()), heard, pair=P, places=(0, 1), hearing=(1, 0))
        self.assert_call(((0,), ((1,),)), heard, pair=P, places=(2,), hearing=(1,))


if __name__ == "__main__":
    unittest.main()
