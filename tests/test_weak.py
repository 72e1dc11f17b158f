"""Point 23: weavings by weak elections, and by a lock without a fence; of point 3 (f) and (i)."""

import unittest

from tests.helper import by_names, things
from watchednodes.errors import Late, NoLooks
from watchednodes.houses import House
from watchednodes.judging import first_amiss
from watchednodes.recipes import Fence, lock_of
from watchednodes.weak import HOUSES, losing, unfenced
from watchednodes.worlds import World


def head_of(world):
    """The house, none stopped, that is the settled head of the greatest epoch."""
    houses = [world.house(name).house() for name in world.members() if name not in world.stopped()]
    heads = [house for house in houses if house.is_settled()]
    return max(heads, key=lambda house: house.epoch())


def lost(world):
    """The answers that were heard whose entries aren't in that head's row."""
    row = head_of(world).row()
    told = []
    for word in world.askers():
        for stamp, deed, _, place in world.asker(word).answers():
            if (place, ("ask", word, stamp, deed)) not in row:
                told.append((word, stamp))
    return told


class TestHouses(unittest.TestCase):

    def test_three_names(self):
        self.assertIs(type(HOUSES), tuple)
        self.assertEqual(len(HOUSES), 3)
        for name in HOUSES:
            self.assertEqual(House(name, HOUSES).members(), HOUSES)


class TestLosing(unittest.TestCase):

    def test_something_heard_is_lost(self):
        for looks in ("epoch", "none"):
            world = World(HOUSES, looks=looks)
            told = world.weave(losing(looks))
            self.assertEqual(len(told), len(losing(looks)))
            self.assertNotEqual(lost(world), [])
            self.assertEqual(world.stopped(), [])

    def test_it_is_done_at_no_house_in_the_end(self):
        for looks in ("epoch", "none"):
            world = World(HOUSES, looks=looks)
            world.weave(losing(looks))
            word = lost(world)[0][0]
            asker = world.asker(word)
            self.assertIsNotNone(first_amiss(head_of(world).row(), word, asker.heard(), world.laid(word)))

    def test_with_looks_all_nothing_is_lost(self):
        for looks in ("epoch", "none"):
            world = World(HOUSES, looks="all")
            world.weave(losing(looks))
            self.assertEqual(lost(world), [])
            self.assertTrue([word for word in world.askers() if world.asker(word).answers()])
            for name in HOUSES:
                world.weave([("seek", name)])
                world.calm(6)
            self.assertEqual(lost(world), [])

    def test_by_less_looks_than_it_was_made_for(self):
        world = World(HOUSES, looks="none")
        world.weave(losing("epoch"))
        self.assertNotEqual(lost(world), [])

    def test_no_looks(self):
        for looks in ["all", "", "Epoch", "no", "none ", "epochnone", b"none", ("none",), ["epoch"], {"none"}] + things():
            with self.assertRaises(NoLooks):
                losing(looks)

    def test_told_anew(self):
        for looks in ("epoch", "none"):
            ahead = losing(looks)
            self.assertIs(type(ahead), list)
            losing(looks).clear()
            losing(looks).reverse()
            self.assertEqual(losing(looks), ahead)
            self.assertEqual(by_names(losing, looks=looks), [ahead])


class TestUnfenced(unittest.TestCase):

    def woven(self):
        world = World(HOUSES)
        self.assertEqual(len(world.weave(unfenced())), len(unfenced()))
        return world

    def number(self, world, word):
        """The number by which an asker holds the lock, for all that it knows."""
        asker = world.asker(word)
        _, kind, path, kids, _ = asker.reads()[-1]
        self.assertEqual((kind, path), ("kids", "/lock"))
        _, _, answer, _ = asker.answers()[-1]
        self.assertEqual((answer[0], answer[1].rpartition("/")[0]), ("ok", "/lock"))
        told = lock_of(list(kids), answer[1].rpartition("/")[2])
        self.assertEqual(told[0], "holds")
        return told[1]

    def test_both_hold_it(self):
        world = self.woven()
        self.assertLess(self.number(world, "first"), self.number(world, "second"))
        self.assertFalse(world.asker("first").is_busy() or world.asker("second").is_busy())
        row = head_of(world).done_row()
        for word in ("first", "second"):
            self.assertIsNone(first_amiss(row, word, world.asker(word).heard(), world.laid(word)))

    def test_what_a_fence_hears_both_ways_about(self):
        world = self.woven()
        first, second = self.number(world, "first"), self.number(world, "second")
        fence = Fence()
        fence.write(second, "second")
        with self.assertRaises(Late) as caught:
            fence.write(first, "first")
        self.assertEqual(caught.exception.least, second)
        self.assertEqual((fence.text(), fence.greatest(), len(fence)), ("second", second, 1))
        fence = Fence()
        fence.write(first, "first")
        fence.write(second, "second")
        self.assertEqual((fence.text(), len(fence)), ("second", 2))

    def test_told_anew(self):
        ahead = unfenced()
        self.assertIs(type(ahead), list)
        unfenced().clear()
        unfenced().append("x")
        self.assertEqual(unfenced(), ahead)


if __name__ == "__main__":
    unittest.main()
