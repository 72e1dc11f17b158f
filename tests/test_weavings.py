"""Of point 3 (a), (b), (d), (e), (g), (h), as far as rows, houses and watchers go: weavings."""

import unittest

from tests.helper import Reckoned
from tests.test_houses import opened
from tests.woven import FIVE, THREE, Post, ask, told
from watchednodes.errors import NotHead
from watchednodes.paths import NOWHERE
from watchednodes.rows import behind, is_beginning, is_row, last_place, state_of, told_by
from watchednodes.watchers import Watchers

TWO = THREE[:2]


class TestWritten(unittest.TestCase):
    """Weavings of a few houses, written out."""

    def alike(self, post, names=None):
        """These houses, or all, have one row, and know it done."""
        for name in post.members if names is None else names:
            self.assertEqual(post.houses[name].row(), post.longest)
            self.assertEqual(post.houses[name].done_row(), post.longest)

    def test_an_election_letter_by_letter(self):
        post = Post(self, THREE)
        self.assertEqual(post.seek("bea"), [
            ("seek", "bea", "ann", 1, 0, NOWHERE), ("seek", "bea", "cyd", 1, 0, NOWHERE)])
        self.assertEqual(post.give(post.letters[0]), [("promise", "ann", "bea", 1, NOWHERE)])
        self.assertEqual(post.give(post.letters[2]), [("sync", "bea", "ann", 1, "more", NOWHERE, (), NOWHERE)])
        self.assertEqual(post.give(post.letters[3]), [("synced", "ann", "bea", 1, NOWHERE)])
        self.assertEqual(post.give(post.letters[4]), [])
        self.assertEqual(post.put("bea", ask(1)), [("propose", "bea", "ann", 1, NOWHERE, (1, 1), ask(1))])
        self.assertEqual(post.give(post.letters[5]), [("took", "ann", "bea", 1, (1, 1))])
        self.assertEqual(post.give(post.letters[6]), [("done", "bea", "ann", 1, (1, 1))])
        self.assertEqual(post.give(post.letters[7]), [])
        self.assertEqual(post.beat("bea"), [("done", "bea", "ann", 1, (1, 1)), ("lead", "bea", "cyd", 1)])
        self.assertEqual(post.give(post.letters[9]), [("promise", "cyd", "bea", 1, NOWHERE)])
        self.assertEqual(post.give(post.letters[10]), [
            ("sync", "bea", "cyd", 1, "more", NOWHERE, (((1, 1), ask(1)),), (1, 1))])
        self.assertEqual(post.give(post.letters[11]), [("synced", "cyd", "bea", 1, (1, 1))])
        self.assertEqual(post.give(post.letters[12]), [])
        self.alike(post)

    def test_two_that_seek_by_one_epoch(self):
        post = Post(self, THREE)
        one, other = post.seek("ann"), post.seek("bea")
        self.assertEqual(post.give(one[0]) + post.give(other[0]), [])
        promise = post.give(one[1])
        self.assertEqual(post.give(other[1]), [])
        post.give_all(promise)
        self.assertEqual((post.houses["ann"].role(), post.houses["bea"].role()), ("leads", "seeks"))
        post.beats("ann")
        self.assertEqual([post.houses[name].role() for name in THREE], ["leads", "follows", "follows"])
        self.assertEqual(post.heads, {1: "ann"})

    def test_none_gets_most(self):
        post = Post(self, FIVE[:4])
        for one, other in (("ann", "cyd"), ("bea", "dot")):
            for letter in post.seek(one):
                if letter[2] == other:
                    self.assertEqual(post.give(letter)[0][0], "promise")
        for letter in list(post.letters):
            post.give(letter)
        self.assertEqual(post.heads, {})
        post.elect("dot")
        self.assertEqual([post.houses[name].head() for name in post.members], ["dot"] * 4)

    def test_what_a_fallen_head_alone_had_is_done_at_none(self):
        post = Post(self, THREE)
        post.elect("ann")
        post.put("ann", ask(1, "amy"))
        post.beats("ann")
        lost = post.put("ann", ask(2, "amy"))
        post.elect("bea", among=("bea", "cyd"))
        post.put("bea", ask(3, "amy"))
        post.beats("bea", among=("bea", "cyd"))
        post.give_all(lost)
        post.beats("bea")
        self.alike(post)
        self.assertEqual([entry for _, entry in post.longest], [ask(1, "amy"), ask(3, "amy")])
        self.assertIn(("sync", "bea", "ann", 2, "cut", (1, 1), (((2, 1), ask(3, "amy")),), (2, 1)), post.letters)

    def test_what_most_took_of_a_fallen_head_is_done_at_all(self):
        for told_done in (False, True):
            post = Post(self, FIVE)
            post.elect("ann")
            letters = post.put("ann", ask(1, "amy"))
            for letter in letters[:2]:
                took = post.give(letter)
                if told_done:
                    post.give(took[0])
            self.assertEqual(post.houses["ann"].done(), (1, 1) if told_done else NOWHERE)
            post.elect("bea", among=("bea", "dot", "eve"))
            post.put("bea", ask(2, "amy"))
            post.beats("bea")
            self.alike(post)
            self.assertEqual([entry for _, entry in post.longest], [ask(1, "amy"), ask(2, "amy")])

    def test_who_lacks_what_was_done_does_not_lead(self):
        post = Post(self, THREE)
        post.elect("ann")
        post.elect("ann", among=("ann", "bea"))
        post.put("ann", ask(1, "amy"))
        post.beats("ann", among=("ann", "bea"))
        self.assertEqual(post.houses["bea"].done(), (2, 1))
        for _ in range(5):
            post.give_all(post.seek("cyd"), among=("bea", "cyd"))
            self.assertEqual(post.houses["cyd"].role(), "seeks")
        post.elect("bea", among=("bea", "cyd"))
        post.beats("bea")
        self.alike(post)

    def test_what_fewer_than_most_took_is_not_done(self):
        for members in (TWO, THREE, FIVE[:4], FIVE):
            few = members[:(len(members) - 1) // 2]
            if len(few) == 0:
                few = members[:1]
            post = Post(self, members)
            post.elect("ann")
            for k in range(5):
                letters = post.put("ann", ask(k + 1, "amy"))
                post.give_all(letters, among=few)
                post.beats("ann", among=few)
                self.assertEqual([house.done() for house in post.houses.values()], [NOWHERE] * len(members))
            post.give_all(letters)
            self.assertEqual(post.longest, [])
            post.beats("ann")
            self.assertEqual(len(post.longest), 5)
            self.alike(post)

    def test_fewer_than_most_elect_none(self):
        for members in (TWO, THREE, FIVE[:4], FIVE):
            few = members[:len(members) // 2]
            post = Post(self, members)
            for k in range(6):
                post.give_all(post.seek(few[k % len(few)]), among=few)
                post.give_all(post.beat(few[0]), among=few)
            self.assertEqual(post.heads, {})

    def test_an_elder_head_comes_back(self):
        post = Post(self, THREE)
        post.elect("ann")
        post.put("ann", ask(1, "amy"))
        post.elect("cyd", among=("bea", "cyd"))
        self.assertTrue(post.houses["ann"].is_settled())
        elder = post.put("ann", ask(2, "amy")) + post.beat("ann")
        ahead = told(post.houses["bea"])
        post.give_all(elder)
        self.assertEqual(told(post.houses["bea"]), ahead)
        post.beats("cyd")
        self.assertEqual((post.houses["ann"].role(), post.houses["ann"].head()), ("follows", "cyd"))
        self.alike(post)

    def test_brought_up_by_lacking(self):
        post = Post(self, THREE)
        post.elect("ann")
        for k in range(3):
            post.put("ann", ask(k + 1, "amy"))
        post.beats("ann", among=("ann", "bea"))
        seeks = post.seek("ann")
        self.assertEqual(post.give(seeks[1]), [("promise", "cyd", "ann", 2, NOWHERE)])
        post.give_all(seeks[:1])
        # What cyd tells as its last isn't so, so it lacks the base of the sync.
        self.assertEqual([letter[4] for letter in post.give(("promise", "cyd", "ann", 2, (1, 2)))], ["more"])
        post.give_all(post.letters[-1:])
        self.assertIn(("lack", "cyd", "ann", 2), post.letters)
        post.beats("ann")
        self.alike(post)

    def test_stops_of_all(self):
        post = Post(self, THREE)
        for k, head in enumerate(("ann", "bea", "cyd", "ann")):
            post.elect(head)
            post.put(head, ask(k + 1, "amy"))
            post.beats(head)
            self.alike(post)
            for name in THREE:
                post.begin_anew(name)
                self.assertEqual((post.houses[name].done(), post.houses[name].role()), (NOWHERE, "seeks"))
        self.assertEqual(len(post.longest), 4)
        post.elect("bea")
        self.alike(post)

    def test_a_session_goes_at_one_place_and_its_watcher_is_told_once(self):
        post = Post(self, THREE)
        post.elect("ann")
        for entry in (opened("amy", 2), ask(2, "amy", ("make", "/a", "", True, True)), opened("bob", 9)):
            post.put("ann", entry)
        for k in range(12):
            post.beats("ann")
            if k == 4:
                post.elect("bea")
            if k > 4:
                post.beats("bea")
        told_of = told_by(post.longest)
        gone = [(place, events) for place, _, events in told_of if ("gone", "/a-000000") in events]
        self.assertEqual([events for _, events in gone], [[("gone", "/a-000000"), ("kids", "/")]])
        self.assertEqual([entry for _, entry in post.longest].count(("end", "amy")), 1)
        watchers = Watchers()
        letters = watchers.anew("bob", (("text", "/a-000000", (1, 2)),), told_of)
        self.assertEqual(letters, [("event", "bob", "text", "/a-000000", "gone", gone[0][0])])
        self.assertEqual(len(watchers), 0)


class TestReckoned(unittest.TestCase):
    """Many weavings of one to five houses, in which letters come late, twice, in another order, or never."""

    def weave(self, many, seed, steps=260):
        """A weaving; Post checks it at each step."""
        post, chance, stamps = Post(self, FIVE[:many]), Reckoned(seed * 10 + many), {}
        for _ in range(steps):
            name = chance.one_of(post.members)
            kind = chance.below(100)
            if kind < 3:
                post.seek(name)
            elif kind < 12:
                post.beat(name)
            elif kind < 14:
                post.begin_anew(name)
            elif kind < 32:
                self.put_some(post, chance, stamps)
            elif post.letters:
                lately = post.letters[-30:] if chance.below(5) else post.letters
                post.give(chance.one_of(lately))
        return post

    def put_some(self, post, chance, stamps):
        """An entry is put at each settled head; often an ask that was asked ahead."""
        asker = chance.one_of(["amy", "bob"])
        if asker not in stamps or chance.below(3):
            stamps[asker] = stamps.get(asker, 0) + 1
        stamp = stamps[asker]
        deed = ("open", 1 + stamp % 4) if stamp % 3 == 1 else ("make", "/a", asker, stamp % 2 == 0, True)
        for name in post.members:
            house = post.houses[name]
            if not house.is_settled():
                with self.assertRaises(NotHead):
                    house.put(ask(stamp, asker, deed))
                self.assertEqual(house.put_once(ask(stamp, asker, deed)), [])
            elif chance.below(2):
                post.put_once(name, ask(stamp, asker, deed))
            else:
                post.put(name, ask(stamp, asker, deed))

    def best(self, house):
        """What an election looks at."""
        return house.epoch(), last_place(house.row())

    def check_rows(self, post):
        """Rows are rows, and what is told of them is what they tell."""
        for house in post.houses.values():
            row, done_row = house.row(), house.done_row()
            self.assertTrue(is_row(row))
            self.assertTrue(is_beginning(done_row, row))
            self.assertEqual(behind(row, house.done()), row[len(done_row):])
            self.assertEqual(house.state(), state_of(done_row))
            if house.role() == "leads":
                self.assertEqual(house.is_settled(), len(house.synced()) > len(post.members) // 2)

    def check_asks(self, row):
        """Each ask is done at most once, in the order asked; each session's nodes go at its end."""
        last, owned = {}, {}
        for (place, entry), (_, answer, events) in zip(row, told_by(row)):
            asker = entry[1]
            if entry[0] == "ask" and (events or answer == ("ok", None)):
                again = entry[2] == last.get(asker, 0) and not events
                self.assertTrue(again or entry[2] > last.get(asker, 0), (place, entry))
                last[asker] = max(entry[2], last.get(asker, 0))
            if entry[0] == "ask" and entry[3][0] == "make" and entry[3][3] and events:
                owned.setdefault(asker, []).append(events[0][1])
            if entry[0] == "end":
                gone = [path for word, path in events if word == "gone"]
                self.assertEqual(gone, sorted(owned.pop(asker, [])))

    def test_all(self):
        put, heads = 0, 0
        for many in range(1, 6):
            for seed in range(14):
                post = self.weave(many, seed)
                self.check_rows(post)
                self.check_asks(post.longest)
                put += len(post.longest)
                heads += len(post.heads)
        self.assertGreater(put, 300)
        self.assertGreater(heads, 150)

    def test_at_last_all_are_alike(self):
        for many in range(1, 6):
            for seed in range(6):
                post = self.weave(many, seed, 150)
                ahead = list(post.longest)
                bests = [self.best(house) for house in post.houses.values()]
                name = post.members[bests.index(max(bests))]
                post.elect(name)
                post.put(name, ("end", "zed"))
                post.beats(name)
                self.assertTrue(is_beginning(ahead, post.longest))
                self.assertIn(("end", "zed"), [entry for _, entry in post.longest])
                for house in post.houses.values():
                    self.assertEqual((house.row(), house.done_row()), (post.longest, post.longest))

    def test_woven_alike_it_tells_alike(self):
        for many in (1, 3, 5):
            one, other = self.weave(many, 99), self.weave(many, 99)
            self.assertEqual(one.letters, other.letters)
            for name in one.members:
                self.assertEqual(told(one.houses[name]), told(other.houses[name]))

    def test_every_letter_twice_changes_nothing_more(self):
        for many in (2, 3, 5):
            post = Post(self, FIVE[:many])
            post.elect("ann")
            for k in range(6):
                post.put("ann", ask(k + 1, "amy", ("make", "/a", "", False, True) if k else ("open", 99)))
                post.beats("ann")
            row = list(post.longest)
            for letter in list(post.letters):
                post.give(letter)
            for letter in list(post.letters)[::-1]:
                post.give(letter)
            post.beats("ann")
            self.assertEqual(post.longest, row)
            for house in post.houses.values():
                self.assertEqual(house.done_row(), row)


if __name__ == "__main__":
    unittest.main()
