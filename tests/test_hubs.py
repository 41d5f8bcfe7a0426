"""Points 17 and 18: hubs behind every change, and why a place reaches another one."""

import unittest

from webmaking import HUGE, Model, chosen_deed
from wordmaking import Chooser
from wordways.errors import Full, NoName, NoPlace, NoTie, Tied
from wordways.hubs import Hubs


def hubs_of(places, ties, cuts=()):
    """Hubs of so many places and of ties (start, goal), some taken out again."""
    hubs = Hubs()
    for _ in range(places):
        hubs.place()
    for start, goal in ties:
        hubs.tie(start, "a", goal)
    for tie in cuts:
        hubs.cut(tie)
    return hubs


def reach_of(places, ties):
    """Of each place all that it reaches, told by joining rows until nothing is new."""
    reach = {place: {place} for place in places}
    for _, start, _, goal in ties:
        reach[start].add(goal)
    for middle in places:
        for place in places:
            if middle in reach[place]:
                reach[place] |= reach[middle]
    return reach


def hubs_from(reach):
    """The out hubs and the in hubs of each place, word by word as they are promised."""
    outs = {
        p: [h for h in sorted(reach[p]) if not any(g < h and h in reach[g] for g in reach[p])] for p in reach}
    ins = {
        p: [h for h in sorted(reach) if p in reach[h] and not any(g < h and p in reach[g] for g in reach[h])]
        for p in reach}
    return outs, ins


def all_told(hubs):
    """All that hubs tell, but whys."""
    places = hubs.places()
    return (
        places, hubs.ties(), [hubs.out_hubs(place) for place in places], [hubs.in_hubs(place) for place in places],
        [hubs.reaches(start, goal) for start in places for goal in places])


class HubsCase(unittest.TestCase):
    def check_hubs(self, hubs):
        """All hubs are right, and who reaches whom."""
        reach = reach_of(hubs.places(), hubs.ties())
        outs, ins = hubs_from(reach)
        for place in reach:
            self.assertEqual(hubs.out_hubs(place), outs[place])
            self.assertEqual(hubs.in_hubs(place), ins[place])
            for goal in reach:
                self.assertIs(hubs.reaches(place, goal), goal in reach[place])
        return reach, outs, ins

    def check_all(self, hubs):
        reach, outs, ins = self.check_hubs(hubs)
        for start in reach:
            for goal in reach:
                self.check_why(hubs, start, goal, sorted(set(outs[start]) & set(ins[goal])))

    def check_why(self, hubs, start, goal, joining):
        told = hubs.why(start, goal)
        ties = {tie: (first, last) for tie, first, _, last in hubs.ties()}
        if joining:
            kind, hub, steps = told
            self.assertEqual((kind, hub), ("way", joining[0]))
            passed = [start]
            for tie, side in steps:
                self.assertEqual((side, ties[tie][0]), ("on", passed[-1]))
                passed.append(ties[tie][1])
            self.assertEqual(passed[-1], goal)
            self.assertIn(hub, passed)
        else:
            kind, places = told
            self.assertEqual(kind, "cut")
            self.assertEqual(places, sorted(set(places) & set(hubs.places())))
            self.assertIn(start, places)
            self.assertNotIn(goal, places)
            for first, last in ties.values():
                self.assertTrue(first not in places or last in places)

    def refused(self, error, hubs, deed):
        before = all_told(hubs)
        with self.assertRaises(error) as caught:
            deed()
        self.assertIs(type(caught.exception), error)
        self.assertEqual(all_told(hubs), before)
        return caught.exception


class HistoryTest(HubsCase):
    def history(self, seed, deeds, cuts):
        chooser = Chooser(seed)
        model = Model(60, 200)
        hubs = Hubs()
        for _ in range(deeds):
            deed, *worth = chosen_deed(chooser, model)
            if deed in ("mark", "undo"):
                if not model.now["ties"] or not cuts:
                    continue
                deed, worth = "cut", [chooser.of(model.now["ties"])[0]]
            told = model.do(deed, *worth)
            if isinstance(told, type):
                self.refused(told, hubs, lambda: getattr(hubs, deed)(*worth))
            else:
                self.assertEqual(getattr(hubs, deed)(*worth), told)
            self.assertEqual(hubs.places(), model.now["places"])
            self.assertEqual(hubs.ties(), model.now["ties"])
            yield hubs

    def test_right_behind_every_change(self):
        most = 0
        for seed in range(20):
            for hubs in self.history(seed, 80, seed % 2 == 0):
                self.check_all(hubs)
            most = max(most, len(hubs.ties()))
        self.assertGreater(most, 15)

    def test_asked_seldom(self):
        for seed in range(20, 50):
            for hubs in self.history(seed, 120, seed % 2 == 0):
                pass
            self.check_all(hubs)

    def test_none_is_idle(self):
        # Each hub of a place is the one by which it reaches that hub, or is reached.
        for seed in range(50, 65):
            for hubs in self.history(seed, 60, True):
                for place in hubs.places():
                    for hub in hubs.out_hubs(place):
                        self.assertEqual(set(hubs.out_hubs(place)) & set(hubs.in_hubs(hub)), {hub})
                    for hub in hubs.in_hubs(place):
                        self.assertEqual(set(hubs.out_hubs(hub)) & set(hubs.in_hubs(place)), {hub})

    def test_the_greatest_webs(self):
        chooser = Chooser(7)
        hubs = hubs_of(60, [])
        for k in range(200):
            start, goal = sorted((chooser.below(60), chooser.below(60)), reverse=k % 5 < 3)
            hubs.tie(start, "a", goal)
            if k % 20 == 0:
                self.check_hubs(hubs)
        self.check_all(hubs)
        for tie in range(0, 200, 3):
            hubs.cut(tie)
            if tie % 30 == 0:
                self.check_hubs(hubs)
        self.check_all(hubs)

    def test_a_long_line_and_a_long_ring(self):
        for turned in (False, True):
            ends = [(k + 1, k) if turned else (k, k + 1) for k in range(59)]
            hubs = hubs_of(60, ends)
            self.check_hubs(hubs)
            hubs.tie(*((0, "a", 59) if turned else (59, "a", 0)))
            self.check_hubs(hubs)
            for place in range(60):
                self.assertEqual((hubs.out_hubs(place), hubs.in_hubs(place)), ([0], [0]))
            self.assertEqual(hubs.why(30, 31)[:2], ("way", 0))
            hubs.cut(30)
            self.check_all(hubs)


class HubTest(HubsCase):
    def test_no_places(self):
        self.assertEqual((Hubs().places(), Hubs().ties()), ([], []))

    def test_a_place_alone(self):
        hubs = hubs_of(2, [])
        self.assertEqual([hubs.out_hubs(1), hubs.in_hubs(1)], [[1], [1]])
        self.assertIs(hubs.reaches(1, 1), True)
        self.assertIs(hubs.reaches(0, 1), False)
        self.assertEqual(hubs.why(1, 1), ("way", 1, []))
        self.assertEqual(hubs.why(0, 1), ("cut", [0]))

    def test_a_line(self):
        hubs = hubs_of(3, [(0, 1), (1, 2)])
        self.assertEqual([hubs.out_hubs(place) for place in range(3)], [[0], [1], [2]])
        self.assertEqual([hubs.in_hubs(place) for place in range(3)], [[0], [0, 1], [0, 1, 2]])
        self.assertEqual(hubs.why(0, 2), ("way", 0, [(0, "on"), (1, "on")]))
        self.assertEqual(hubs.why(1, 2), ("way", 1, [(1, "on")]))

    def test_a_ring_with_a_lesser_place(self):
        hubs = hubs_of(4, [(1, 2), (2, 1), (2, 3)])
        self.assertEqual([hubs.out_hubs(place) for place in range(4)], [[0], [1], [1], [3]])
        self.assertEqual([hubs.in_hubs(place) for place in range(4)], [[0], [1], [1], [1, 3]])
        self.assertEqual(hubs.why(2, 2)[:2], ("way", 1))
        self.assertEqual(hubs.why(2, 2), ("way", 1, [(1, "on"), (0, "on")]))
        hubs.cut(0)
        self.assertEqual([hubs.out_hubs(place) for place in range(4)], [[0], [1], [1, 2], [3]])
        self.assertEqual([hubs.in_hubs(place) for place in range(4)], [[0], [1], [2], [2, 3]])
        self.assertEqual(hubs.why(2, 2), ("way", 2, []))

    def test_the_least_of_several_hubs(self):
        # From 3 to 4 by 2, by 1, by 0: the least that stands is the hub.
        hubs = hubs_of(5, [(3, 2), (2, 4), (3, 1), (1, 4), (3, 0), (0, 4), (3, 4)])
        for least, tie in ((0, 4), (1, 3), (2, 0), (3, 6)):
            told = hubs.why(3, 4)
            self.assertEqual(told[:2], ("way", least))
            self.check_all(hubs)
            hubs.cut(tie)
        self.assertIs(hubs.reaches(3, 4), False)
        self.assertEqual(hubs.why(3, 4)[0], "cut")
        self.check_all(hubs)

    def test_ties_alike_and_at_one_place(self):
        hubs = hubs_of(2, [(1, 1), (1, 0), (1, 0), (1, 0)])
        for tie in (2, 0, 1):
            self.assertEqual((hubs.out_hubs(1), hubs.in_hubs(0), hubs.in_hubs(1)), ([0, 1], [0], [1]))
            hubs.cut(tie)
        self.assertEqual(hubs.out_hubs(1), [0, 1])
        self.assertEqual(hubs.why(1, 0), ("way", 0, [(3, "on")]))
        hubs.cut(3)
        self.assertEqual(hubs.out_hubs(1), [1])
        self.assertEqual(hubs.why(1, 0), ("cut", [1]))

    def test_names_are_all_the_same_to_hubs(self):
        hubs = hubs_of(3, [])
        hubs.tie(0, "a", 1)
        hubs.tie(1, "abcdefgh", 2)
        self.assertIs(hubs.reaches(0, 2), True)
        self.assertIs(hubs.reaches(2, 0), False)

    def test_places_dropped_and_made_again(self):
        hubs = hubs_of(3, [(2, 0), (0, 1)])
        hubs.cut(0)
        hubs.cut(1)
        hubs.drop(0)
        self.check_all(hubs)
        self.assertEqual(hubs.place(), 3)
        self.assertEqual(hubs.tie(3, "b", 1), 2)
        self.assertEqual(hubs.places(), [1, 2, 3])
        self.check_all(hubs)

    def test_hubs_have_no_marks(self):
        self.assertFalse(hasattr(Hubs(), "mark"))
        self.assertFalse(hasattr(Hubs(), "undo"))


class RefusalTest(HubsCase):
    def setUp(self):
        self.hubs = hubs_of(4, [(0, 1), (1, 0), (1, 3)], cuts=[2])
        self.hubs.drop(3)

    def test_places_that_are_none(self):
        hubs = self.hubs
        for place in (3, 4, -1, HUGE, -HUGE):
            for ask in (
                lambda: hubs.out_hubs(place), lambda: hubs.in_hubs(place), lambda: hubs.drop(place),
                lambda: hubs.reaches(place, 0), lambda: hubs.reaches(0, place), lambda: hubs.reaches(place, place),
                lambda: hubs.why(place, 0), lambda: hubs.why(0, place), lambda: hubs.why(place, place),
                lambda: hubs.tie(place, "", 0), lambda: hubs.tie(0, "", place),
            ):
                self.refused(NoPlace, hubs, ask)

    def test_names_ties_and_places_at_which_ties_are(self):
        hubs = self.hubs
        for name in ("", "A", "abcdefghi", "^a", "a\n"):
            self.refused(NoName, hubs, lambda: hubs.tie(0, name, 2))
        for tie in (2, 3, -1, HUGE, -HUGE):
            self.refused(NoTie, hubs, lambda: hubs.cut(tie))
        self.refused(Tied, hubs, lambda: hubs.drop(0))
        self.assertEqual((hubs.place(), hubs.tie(0, "a", 2)), (4, 3))

    def test_the_default_bounds(self):
        hubs = hubs_of(60, [(k % 60, k % 7) for k in range(200)])
        self.assertEqual(self.refused(Full, hubs, hubs.place).most, 60)
        self.assertEqual(self.refused(Full, hubs, lambda: hubs.tie(50, "a", 51)).most, 200)
        self.refused(NoName, hubs, lambda: hubs.tie(0, "A", 0))
        self.refused(NoPlace, hubs, lambda: hubs.tie(0, "A", 60))
        with self.assertRaises(TypeError):
            Hubs(most_places=3)


class CallTest(HubsCase):
    def test_by_name_in_any_order(self):
        hubs = hubs_of(2, [])
        self.assertEqual(hubs.tie(goal=1, name="a", start=0), 0)
        self.assertEqual(hubs.out_hubs(place=0), [0])
        self.assertEqual(hubs.in_hubs(place=1), [0, 1])
        self.assertIs(hubs.reaches(goal=1, start=0), True)
        self.assertEqual(hubs.why(goal=0, start=1), ("cut", [1]))
        self.assertIsNone(hubs.cut(tie=0))
        self.assertIsNone(hubs.drop(place=0))

    def test_lists_are_the_askers_own(self):
        hubs = hubs_of(4, [(0, 1), (1, 0), (1, 2)])
        told = all_told(hubs)
        for ask in (
            hubs.places, hubs.ties, lambda: hubs.out_hubs(0), lambda: hubs.in_hubs(2), lambda: hubs.out_hubs(3),
            lambda: hubs.why(0, 2)[2], lambda: hubs.why(0, 3)[1],
        ):
            first, second = ask(), ask()
            self.assertIs(type(first), list)
            self.assertIsNot(first, second)
            first.append(9)
            self.assertEqual(ask(), second)
        hubs.in_hubs(3).clear()
        self.assertEqual(all_told(hubs), told)
        lists = hubs.out_hubs(3), hubs.in_hubs(3)
        hubs.tie(3, "a", 0)
        hubs.tie(0, "a", 3)
        self.assertEqual(lists, ([3], [3]))

    def test_neither_of_two_changes_the_other(self):
        one, two = hubs_of(2, [(0, 1)]), hubs_of(2, [])
        self.assertIs(two.reaches(0, 1), False)
        two.tie(1, "a", 0)
        self.assertIs(one.reaches(1, 0), False)
        one.place()
        self.assertEqual((len(one.places()), len(two.places())), (3, 2))
        self.check_all(one)
        self.check_all(two)


if __name__ == "__main__":
    unittest.main()
