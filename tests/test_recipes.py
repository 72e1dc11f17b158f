"""Point 22: recipes; of point 3 (f) the lock over rows of deeds, and the fence."""

import copy
import itertools
import unittest

from tests.helper import Reckoned, by_names
from watchednodes.errors import Late
from watchednodes.nodes import first_nodes, kids_of
from watchednodes.recipes import Fence, barrier_of, first_of, head_of_group, lock_of, number_of
from watchednodes.states import done, first_state


class TestNumberOf(unittest.TestCase):

    def test_figures_and_none(self):
        for part, number in (("a-000000", 0), ("lock-000012", 12), ("abcdefgh-999999", 999999), ("z-100000", 100000),
                             ("a-000008", 8), ("a", None), ("lock", None), ("abcdefgh", None)):
            self.assertEqual(number_of(part), number)
            self.assertIs(type(number_of(part)), type(number))
            self.assertEqual(by_names(number_of, part=part), [number])


class TestLockOf(unittest.TestCase):

    def check(self, kids, part, told):
        for order in list(itertools.permutations(kids))[:120]:
            handed = list(order)
            self.assertEqual(lock_of(handed, part), told)
            self.assertEqual(handed, list(order))

    def test_none_ahead(self):
        self.check(["a-000003"], "a-000003", ("holds", 3))
        self.check(["a-000000", "a-000001"], "a-000000", ("holds", 0))
        self.check(["b-000002", "a-000010", "a-000003"], "b-000002", ("holds", 2))
        self.check(["a", "b", "z-000009"], "z-000009", ("holds", 9))

    def test_the_last_one_ahead(self):
        self.check(["a-000000", "a-000001"], "a-000001", ("waits", "a-000000"))
        self.check(["c-000001", "b-000005", "a-000007", "d-000006"], "a-000007", ("waits", "d-000006"))
        self.check(["c-000001", "b-000005", "a-000007", "d-000006"], "d-000006", ("waits", "b-000005"))
        self.check(["c-000001", "b-000005", "a-000007", "d-000006"], "b-000005", ("waits", "c-000001"))
        self.check(["a-000009", "z-000002", "a-000010"], "a-000010", ("waits", "a-000009"))

    def test_ones_own_not_there_or_without_figures(self):
        for part in ("a-000002", "b-000000", "a", "b", "x"):
            self.check(["a-000000", "a-000001", "b"], part, None)
        self.check([], "a-000000", None)
        self.check(["a"], "a", None)

    def test_like_numbers_behind_unlike_words(self):
        kids = ["b-000001", "a-000001", "ab-000001", "c-000000", "a-000002", "d"]
        for k, part in enumerate(["c-000000", "a-000001", "ab-000001", "b-000001", "a-000002"]):
            ahead = ["c-000000", "a-000001", "ab-000001", "b-000001", "a-000002"][:k]
            self.check(kids, part, ("waits", ahead[-1]) if ahead else ("holds", 0))

    def test_by_names(self):
        self.assertEqual(by_names(lock_of, kids=["a-000000", "a-000001"], part="a-000001"), [("waits", "a-000000")] * 2)
        self.assertEqual(lock_of(("a-000000", "a-000001"), "a-000000"), ("holds", 0))


class TestQueueGroupBarrier(unittest.TestCase):

    NODES = {"/": ("", 0, 3, None), "/g": ("x", 0, 4, None), "/g/b-000003": ("t", 1, 0, "bob"), "/g/a": ("u", 0, 0, None),
             "/g/z-000001": ("v", 0, 0, None), "/g/c-000001": ("w", 2, 0, "amy"), "/e": ("", 0, 0, None),
             "/f": ("", 0, 1, None), "/f/a": ("n", 0, 0, None), "/q-000007": ("r", 0, 0, None)}

    def test_first_of(self):
        for kids, first in (([], None), (["a"], None), (["a", "b-000004"], "b-000004"), (["b-000004", "a-000004"], "a-000004"),
                            (["a-000010", "b-000009"], "b-000009"), (["z-000000", "a-000001", "a"], "z-000000")):
            for order in itertools.permutations(kids):
                handed = list(order)
                self.assertEqual(first_of(handed), first)
                self.assertEqual(handed, list(order))
            self.assertEqual(by_names(first_of, kids=kids), [first])

    def test_head_of_group(self):
        ahead = copy.deepcopy(self.NODES)
        for path, head in (("/g", ("c-000001", "w")), ("/", ("q-000007", "r")), ("/e", None), ("/f", None), ("/x", None),
                           ("/g/a", None), ("/x/y", None), ("/q-000007", None)):
            self.assertEqual(head_of_group(self.NODES, path), head)
            self.assertEqual(by_names(head_of_group, nodes=self.NODES, path=path), [head] * 2)
        self.assertEqual(self.NODES, ahead)
        self.assertIsNone(head_of_group(first_nodes(), "/"))

    def test_barrier_of(self):
        for kids in ([], ["a"], ["a", "b-000001"], ["a-000000", "a-000001", "c", "d"]):
            for many in range(7):
                ahead, lack = list(kids), many - len(kids)
                told = ("open",) if lack <= 0 else ("shut", lack)
                self.assertEqual(barrier_of(kids, many=many), told)
                self.assertEqual(by_names(barrier_of, kids=kids, many=many), [told] * 2)
                self.assertEqual(kids, ahead)
        with self.assertRaises(TypeError):
            barrier_of([], 3)


class TestFence(unittest.TestCase):

    def check(self, fence, text, greatest, many):
        for _ in range(2):
            self.assertEqual((fence.text(), fence.greatest(), len(fence)), (text, greatest, many))

    def test_none_ahead_of_any(self):
        self.check(Fence(), None, None, 0)

    def test_greater_like_and_lesser_numbers(self):
        fence = Fence()
        self.assertIsNone(fence.write(4, "a"))
        self.check(fence, "a", 4, 1)
        self.assertIsNone(fence.write(4, "b"))
        self.check(fence, "b", 4, 2)
        for number in (3, 0):
            with self.assertRaises(Late) as caught:
                fence.write(number, "c")
            self.assertEqual(caught.exception.least, 4)
            self.check(fence, "b", 4, 2)
        self.assertIsNone(fence.write(9, ""))
        self.check(fence, "", 9, 3)
        with self.assertRaises(Late) as caught:
            fence.write(4, "b")
        self.assertEqual(caught.exception.least, 9)
        self.check(fence, "", 9, 3)

    def test_nought_is_a_number_too(self):
        fence = Fence()
        fence.write(0, "a")
        self.check(fence, "a", 0, 1)
        fence.write(0, "b")
        fence.write(1, "c")
        with self.assertRaises(Late) as caught:
            fence.write(0, "d")
        self.assertEqual(caught.exception.least, 1)
        self.check(fence, "c", 1, 3)

    def test_two_fences_apart(self):
        one, other = Fence(), Fence()
        one.write(7, "a")
        self.check(other, None, None, 0)
        other.write(3, "b")
        self.check(one, "a", 7, 1)
        self.check(other, "b", 3, 1)

    def test_by_names(self):
        fence = Fence()
        self.assertEqual(by_names(fence.write, number=3, text="a"), [None, None])
        self.check(fence, "a", 3, 2)


class TestLockOverRows(unittest.TestCase):
    """Askers who make numbered nodes of their own beneath a lock, wait, write, and go."""

    def weave(self, seed, deeds=120):
        reckoned, askers = Reckoned(seed), ("amy", "bob", "cat", "dan")
        state, stamps, own = first_state(), dict.fromkeys(askers, 0), {}
        held, made, fence, heard = [], [], Fence(), []
        place = 0

        def ask(asker, deed):
            nonlocal state, place
            stamps[asker] += 1
            place += 1
            state, answer, _ = done(state, ("ask", asker, stamps[asker], deed), place=(1, place))
            return answer

        for asker in askers:
            ask(asker, ("open", 9))
        ask("amy", ("make", "/lock", "", False, False))
        for _ in range(deeds):
            asker = reckoned.one_of(askers)
            which = reckoned.below(8)
            if asker not in own:
                word = reckoned.one_of(("a", "turn", "z"))
                path = ask(asker, ("make", "/lock/" + word, "", True, True))[1]
                own[asker] = path.rpartition("/")[2]
                made.append(own[asker])
            elif which == 0:
                place += 1
                state = done(state, ("end", asker), place=(1, place))[0]
                del own[asker]
                ask(asker, ("open", 9))
            elif which < 3:
                self.assertEqual(ask(asker, ("drop", "/lock/" + own.pop(asker), None)), ("ok", None))
            self.check(state, own, made, held)
            if held:
                # Who once held it and doesn't know better may write late: it isn't heard.
                number = number_of(held[-1 - reckoned.below(min(3, len(held)))])
                try:
                    fence.write(number, asker)
                    heard.append(number)
                except Late:
                    self.assertLess(number, fence.greatest())
        self.assertEqual(heard, sorted(heard))
        self.assertGreater(len(held), 5)

    def check(self, state, own, made, held):
        kids = kids_of(state[0], "/lock")
        self.assertEqual(sorted(own.values()), kids)
        told = {part: lock_of(kids, part) for part in kids}
        holders = [part for part in kids if told[part][0] == "holds"]
        self.assertEqual(len(holders), 1 if kids else 0)
        for part in kids:
            if part not in holders:
                ahead = told[part][1]
                self.assertIn(ahead, kids)
                self.assertLess(made.index(ahead), made.index(part))
                between = made[made.index(ahead) + 1:made.index(part)]
                self.assertFalse([other for other in between if other in kids])
        if holders and (not held or held[-1] != holders[0]):
            # They hold in the order in which they were made, by numbers that rise.
            if held:
                self.assertLess(made.index(held[-1]), made.index(holders[0]))
                self.assertLess(number_of(held[-1]), number_of(holders[0]))
            self.assertEqual(told[holders[0]], ("holds", number_of(holders[0])))
            held.append(holders[0])

    def test_reckoned(self):
        for seed in range(12):
            with self.subTest(seed):
                self.weave(seed)


if __name__ == "__main__":
    unittest.main()
