"""Points 57 to 61: ends, final views, how many places, the only one, shut nets."""

import unittest

from samefromhere.errors import BadNumber, BadPlan, BadView, NotJoined, NotTwoWay, NoWord, OpenView
from samefromhere.finals import ended, final_net, is_door_view, is_final, open_pair, sizes_with, twice
from samefromhere.leastnets import common_least, least_net
from samefromhere.liftcounts import all_turns, count_turns
from samefromhere.nets import Net
from samefromhere.plans import states, told
from samefromhere.shapes import is_joined, is_two_way
from samefromhere.shutnets import final_after, is_shut
from samefromhere.turns import turned_lift
from samefromhere.views import view, view_plan
from tests.helpers import (ANY_OBJECTS, HALF, LONE, LOOPS, PATH, R, S, TREE_HALF, TRIANGLE, TWO_HALVES, TWO_WAYS,
                           Counting, as_lists, as_tuples, faults, mix_plan, random_shut, random_two_way, ring,
                           samples, slow_door_view, tree_of_ways, two_way)

K = two_way(["a", "a"], [(0, 1, "x", "x")])
SHUT = [LONE, HALF, PATH, TREE_HALF, K] + [random_shut(seed, 4) for seed in range(16)]
DOOR_NETS = TWO_WAYS + SHUT + [random_two_way(seed, 4) for seed in range(14)]


def views_of(nets, most=5):
    """Views that are not too large, with their net, place and rounds."""
    found = []
    for net in nets:
        degree = max([len([road for road in net.roads() if road[1] == place]) for place in range(len(net))])
        for place in range(len(net)):
            for rounds in range(most + 1):
                if degree ** rounds <= 300:
                    found.append((view(net, place, rounds), net, place, rounds))
    return found


SEEN = views_of(DOOR_NETS)
ONE_WAY = [view(net, 0, rounds) for net in (R, S, ring("abc"), Net(["a", "b"], [(1, 0, "", "")]), ring("aab"),
                                            Net(["a"], [(0, 0, "", ""), (0, 0, "", "")])) for rounds in (0, 1, 2, 3)]


def changed(seen):
    """Views, and what looks like them, that differ a little somewhere within."""
    rounds, sign, heard = seen
    yield (rounds, sign + "!", heard)
    yield (rounds + 1, sign, heard)
    if heard:
        yield (rounds, sign, heard[1:])
        yield (rounds, sign, heard + heard[-1:])
        yield (rounds, sign, heard[::-1])
    for at, (into, out, below) in enumerate(heard):
        yield (rounds, sign, heard[:at] + ((into, "~", below),) + heard[at + 1:])
        yield (rounds, sign, heard[:at] + (("~", out, below),) + heard[at + 1:])
        for other in changed(below):
            yield (rounds, sign, heard[:at] + ((into, out, other),) + heard[at + 1:])


def is_view(thing):
    """Of what looks like a view: whether rounds and order are right everywhere."""
    rounds, _, heard = thing
    if rounds == 0 and heard:
        return False
    keys = [(into, out, below) for into, out, below in heard]
    if not all(below[0] == rounds - 1 and is_view(below) for _, _, below in heard):
        return False
    from tests.helpers import ascending
    return list(keys) == ascending(keys)


class TestEnded(unittest.TestCase):
    def test_first_round_with_an_answer(self):
        for net in samples(12):
            for modulus in (2, 3, 5):
                begin, say, hear, _ = mix_plan(7)

                def tell(state):
                    return None if state % modulus else [state]

                plan = (begin, say, hear, tell)
                lines = [told(net, plan, rounds) for rounds in range(5)]
                for rounds in range(5):
                    wanted = [next(((done, lines[done][place]) for done in range(rounds + 1)
                                    if lines[done][place] is not None), None) for place in range(len(net))]
                    self.assertEqual(ended(net=net, plan=plan, rounds=rounds), wanted)

    def test_any_answer_but_none(self):
        for answer in ANY_OBJECTS:
            plan = (lambda sign: 0, lambda state, out: 0, lambda state, heard: 1,
                    lambda state: answer if state else None)
            self.assertEqual(ended(S, plan, 0), [None] * 3)
            for end in ended(S, plan, 3):
                if answer is None:
                    self.assertIsNone(end)
                else:
                    self.assertIsInstance(end, tuple)
                    self.assertEqual(end[0], 1)
                    self.assertIs(end[1], answer)

    def test_errors(self):
        good = view_plan()
        faults(lambda plan: ended(R, plan, None), BadPlan, "thing",
               [(thing, thing) for thing in ANY_OBJECTS + [(len, len, len), (len, len, len, True)]])
        faults(lambda rounds: ended(R, good, rounds), BadNumber, "thing",
               [(thing, thing) for thing in ANY_OBJECTS if type(thing) is not int or thing < 0])
        # All rounds are run, also behind the end.
        plan = (lambda sign: 0, lambda state, out: 0, lambda state, heard: state + 1 if state < 3 else None,
                lambda state: "end")
        self.assertEqual(ended(R, plan, 3), [(0, "end")] * 4)
        with self.assertRaises(NoWord) as caught:
            ended(R, plan, 4)
        self.assertIsNone(caught.exception.thing)

    def test_alike_views_end_alike(self):
        for net in samples(8):
            for other in samples(8):
                plan = (view_plan()[0], view_plan()[1], view_plan()[2],
                        lambda state: len(str(state)) if len(str(state)) % 3 == 0 else None)
                near = ended(net, plan, 2)
                far = ended(other, plan, 2)
                for p in range(len(net)):
                    for q in range(len(other)):
                        if view(net, p, 2) == view(other, q, 2):
                            self.assertEqual(near[p], far[q])

    def test_asked_once(self):
        count = Counting(mix_plan(3))
        ended(TRIANGLE, count.functions, 6)
        self.assertEqual(len(count.asked), len(set(count.asked)))
        told_states = {given for name, given in count.asked if name == 3}
        self.assertLessEqual(told_states, {(state,) for rounds in range(7)
                                           for state in states(TRIANGLE, mix_plan(3), rounds)})

    def test_raised_errors_go_through(self):
        def tell(state):
            raise ZeroDivisionError

        with self.assertRaises(ZeroDivisionError):
            ended(R, view_plan()[:3] + (tell,), 2)


class TestDoorViews(unittest.TestCase):
    def test_views_of_two_way_nets(self):
        for seen, _, _, _ in SEEN:
            self.assertIs(is_door_view(thing=seen), True)
            self.assertIs(is_door_view(as_lists(seen)), True)
            self.assertTrue(slow_door_view(seen))

    def test_changed_views(self):
        told_good = {True: 0, False: 0}
        for seen, _, _, rounds in SEEN:
            if rounds > 3 or len(str(seen)) > 1500:
                continue
            for thing in changed(seen):
                good = is_view(thing) and slow_door_view(thing)
                told_good[good] += 1
                self.assertIs(is_door_view(thing), good, thing)
        self.assertGreater(told_good[True], 200)
        self.assertGreater(told_good[False], 1000)

    def test_other_views(self):
        for seen in ONE_WAY:
            self.assertIs(is_door_view(seen), slow_door_view(seen))
        self.assertTrue(is_door_view((1, "a", ((0, 0, (0, "b", ())), (1, 0, (0, "b", ()))))))
        self.assertFalse(is_door_view((1, "a", ((0, 0, (0, "b", ())), (0, 1, (0, "b", ()))))))
        self.assertTrue(is_door_view((9, "a", ())))
        self.assertFalse(is_door_view((2, "a", ((0, 0, (1, "a", ())),))))

    def test_any_object(self):
        for thing in ANY_OBJECTS:
            self.assertIs(is_door_view(thing), False)
        for thing in [(0, "a"), (0, "a", (), ()), (True, "a", ()), (0, None, ()), (0, "a", ((0, 0, (0, "a", ())),)),
                      (-1, "a", ()), ("0", "a", ()), (1, "a", ((0, (0, "a", ())),)), (1, "a", "bc")]:
            self.assertIs(is_door_view(thing), False)
            faults(is_final, BadView, "thing", [(thing, thing)])

    def test_bad_view(self):
        self.assertEqual({slow_door_view(seen) for seen in ONE_WAY}, {True, False})
        things = ANY_OBJECTS + [seen for seen in ONE_WAY if not slow_door_view(seen)] + [(1, "a", [[0, 0]])]
        for call in (lambda thing: is_final(seen=thing), lambda thing: final_net(seen=thing),
                     lambda thing: open_pair(seen=thing), lambda thing: sizes_with(seen=thing),
                     lambda thing: twice(seen=thing)):
            faults(call, BadView, "thing", [(thing, thing) for thing in things])


class TestFinal(unittest.TestCase):
    def test_by_ways(self):
        for seen, _, _, _ in SEEN:
            self.assertIs(is_final(seen), tree_of_ways(seen)[2] == [])

    def test_final_or_a_pair(self):
        found = {True: 0, False: 0}
        for seen, net, _, rounds in SEEN:
            final = is_final(seen)
            found[final] += 1
            pair = open_pair(seen)
            if final:
                self.assertIsNone(pair)
                self.assertEqual(final_net(seen), least_net(net))
                self.assertEqual(final_net(as_lists(seen)), final_net(seen))
                continue
            faults(final_net, OpenView, "thing", [(seen, seen)])
            faults(sizes_with, OpenView, "thing", [(seen, seen)])
            self.assertIsInstance(pair, list)
            self.assertEqual(len(pair), 2)
            for other, place in pair:
                self.assertTrue(is_two_way(other) and is_joined(other))
                self.assertEqual(view(other, place, rounds), seen)
            self.assertNotEqual(least_net(pair[0][0]), least_net(pair[1][0]))
            self.assertEqual(as_tuples(pair), as_tuples(open_pair(as_lists(seen))))
        self.assertGreater(min(found.values()), 80)

    def test_all_nets_with_a_final_view_have_one_least_net(self):
        finals = {}
        for seen, net, _, _ in SEEN:
            if is_final(seen):
                finals.setdefault(str(seen), []).append((seen, net))
        self.assertTrue(any(len(lot) > 2 for lot in finals.values()))
        for lot in finals.values():
            self.assertEqual(len({str(least_net(net).roads()) for _, net in lot}), 1)
            if len(lot) > 1:
                self.assertEqual(common_least([net for _, net in lot]), final_net(lot[0][0]))

    def test_edges(self):
        self.assertFalse(is_final((0, "a", ())))
        self.assertTrue(is_final((1, "a", ())))
        self.assertEqual(final_net((1, "a", ())), LONE)
        self.assertEqual(final_net(view(HALF, 0, 2)), HALF)
        self.assertFalse(is_final(view(HALF, 0, 1)))
        self.assertFalse(is_final(view(TWO_HALVES, 0, 6)))
        for pair in (open_pair((0, ["w", 1], ())), open_pair((0, ("w", 1), ()))):
            self.assertEqual([net.signs()[place] for net, place in pair], [("w", 1)] * 2)

    def test_limits(self):
        seen = view(Net(["a", "b"], two_way(["a", "b"], [(0, 1, i, i) for i in range(3)]).roads()), 0, 7)
        pair = open_pair(seen)
        self.assertEqual([view(net, place, 7) == seen for net, place in pair], [True, True])
        row = two_way(list("abcdef"), [(i, i + 1, 1, 0) for i in range(5)] + [(5, 5, 1, 1)])
        for place in range(6):
            seen = view(row, place, 12)
            self.assertTrue(is_final(seen))
            self.assertEqual(final_net(seen), least_net(row))
        star = (2, "s", tuple((i, 0, (1, "t", ((0, i, (0, "s", ())),))) for i in range(1500)))
        self.assertEqual(len(final_net(star)), 1501)
        self.assertIsNone(twice(star))
        wide = (1, "s", tuple((i, 0, (0, "t", ())) for i in range(3000)))
        self.assertEqual(len(open_pair(wide)[0][0]), 3001)


class TestHowMany(unittest.TestCase):
    def test_sizes_by_all_lifts(self):
        lots = {}
        for seen, _, _, _ in SEEN:
            if is_final(seen):
                base = final_net(seen)
                lots.setdefault(str((base.signs(), base.roads())), (base, []))[1].append(seen)
        for base, lot in lots.values():
            numbers = [number for number in (1, 2, 3, 4) if count_turns(base, number, True) <= 700]
            sizes = sorted({len(base) * number for number in numbers for turns in all_turns(base, number, True)
                            if is_joined(turned_lift(base, number, turns))})
            half = any(one == other and out == into for one, other, out, into in base.roads())
            self.assertEqual(sizes, [len(base), 2 * len(base)] if half else [len(base)])
            self.assertEqual([sizes_with(seen) for seen in lot], [sizes] * len(lot))

    def test_sizes_that_are_met(self):
        for seen, net, _, _ in SEEN:
            if is_final(seen):
                self.assertIn(len(net), sizes_with(seen))

    def test_twice(self):
        found = {True: 0, False: 0}
        for seen, _, _, rounds in SEEN:
            triple = twice(seen)
            only = is_final(seen) and len(sizes_with(seen)) == 1
            self.assertEqual(triple is None, only)
            found[only] += 1
            if triple is not None:
                net, one, other = triple
                self.assertIsInstance(triple, tuple)
                self.assertNotEqual(one, other)
                self.assertTrue(is_two_way(net) and is_joined(net))
                self.assertEqual([view(net, one, rounds), view(net, other, rounds)], [seen, seen])
                self.assertEqual(twice(as_lists(seen)), triple)
        self.assertGreater(min(found.values()), 40)


class TestShut(unittest.TestCase):
    def test_is_shut(self):
        for net in DOOR_NETS:
            pairs = len([road for road in net.roads() if road[0] != road[1] or road[2] != road[3]]) // 2
            halves = len([road for road in net.roads() if road[0] == road[1] and road[2] == road[3]])
            self.assertIs(is_shut(net=net), pairs == len(net) - 1 and halves <= 1)
        self.assertTrue(all(is_shut(net) for net in SHUT))
        self.assertEqual([is_shut(net) for net in (LOOPS, TWO_HALVES, TRIANGLE)], [False] * 3)
        self.assertFalse(is_shut(two_way(["a"], [(0, 0, "x", "y")])))

    def test_final_after(self):
        for net in DOOR_NETS:
            row = final_after(net=net)
            self.assertIsInstance(row, list)
            self.assertEqual([type(rounds) for rounds in row], [int if is_shut(net) else type(None)] * len(net))
            if is_shut(net):
                for place, rounds in enumerate(row):
                    self.assertFalse(is_final(view(net, place, rounds - 1)))
                    for more in range(3):
                        self.assertTrue(is_final(view(net, place, rounds + more)))

    def test_never_final(self):
        for seen, net, _, _ in SEEN:
            if not is_shut(net):
                self.assertFalse(is_final(seen))

    def test_errors(self):
        for call in (is_shut, final_after):
            faults(call, NotTwoWay, "thing", [(R, R), (S, S), (Net(["a", "a"], [(0, 1, 0, 0)]),) * 2])
            faults(call, NotJoined, "thing", [(Net(["a", "a"], []),) * 2])


if __name__ == "__main__":
    unittest.main()
