"""Points 111 to 113: wishes with throws, and what choices and plans are worth."""

import itertools
import math
import time
import unittest
from fractions import Fraction

from samefromhere.coins import best_coins, best_worth, is_coin_choice, plan_worth, worth_of
from samefromhere.errors import (BadAnswers, BadChoice, BadNets, BadNumber, BadPlan, BadRight, BadSides, NoWord)
from samefromhere.kinds import kinds_for_ever
from samefromhere.madenets import beside
from samefromhere.nets import Net
from samefromhere.netlists import kinds_of, rounds_of
from samefromhere.plans import told
from samefromhere.shapes import is_strong
from samefromhere.throws import thrown, throws_of
from samefromhere.unlikes import unlike_chance
from samefromhere.wishes import first_choice
from samefromhere.wishplans import plan_for
from samefromhere.written import written
from tests.helpers import (ANY_OBJECTS, HALF, LONE, R, S, Counting, as_lists, faults, mix_plan, not_words, random_net, ring,
                           two_way)
from tests.test_throws import bad_sides
from tests.test_wishes import asked_once, chance_wish

PAIR = ring("aa")
K = two_way(["a", "a"], [(0, 1, "x", "x")])
SMALL = [[PAIR], [LONE], [HALF], [K], [PAIR, K], [PAIR, ring("aaa")], [Net(["a", "b"], [(0, 1, 0, 0)])],
         [Net(["a", "a"], [])], [Net(["a", "a"], []), LONE], [Net(["a"] * 3, [(0, 1, 0, 0), (0, 2, 0, 0)])],
         [PAIR, PAIR], [LONE, LONE]]
SMALL += [[random_net(seed, most=2, signs=1, road_words=1, roads=3)] for seed in range(12)]
SMALL += [[random_net(seed, most=2, signs=1, road_words=1, roads=3), PAIR] for seed in range(12, 20)]


def all_thrown(nets, sides):
    return [(index, throw, thrown(net, throw)) for index, net in enumerate(nets) for throw in throws_of(net, sides)]


def kind_rows(nets, sides):
    """For each thrown net (index, throw) the list of its places' kinds, told by all thrown nets side by side."""
    rows = all_thrown(nets, sides)
    lots = kinds_for_ever(beside([net for _, _, net in rows]))
    label = {place: at for at, lot in enumerate(lots) for place in lot}
    found = {}
    ahead = 0
    for index, throw, net in rows:
        found[index, throw] = [label[ahead + place] for place in range(len(net))]
        ahead += len(net)
    return found, len(lots)


def slow_worth(nets, right, sides, choice):
    return sum(Fraction(sum(bool(right(index, choice[index][throw])) for throw in throws_of(net, sides)),
                        sides ** len(net)) for index, net in enumerate(nets))


def coin_choices(nets, answers, sides):
    """All coin choices of small nets."""
    rows, many = kind_rows(nets, sides)
    for picked in itertools.product(answers, repeat=many):
        yield [{throw: tuple(picked[kind] for kind in rows[index, throw]) for throw in throws_of(net, sides)}
               for index, net in enumerate(nets)]


def wishes():
    found = []
    for at, nets in enumerate(SMALL):
        for sides in (1, 2):
            _, many = kind_rows(nets, sides)
            for answers in ([0, 1], ["x", (1, ()), 5]):
                if len(answers) ** many <= 300:
                    found.append((nets, answers, chance_wish(at, 0.4), sides))
            if 2 ** many <= 600:
                found.append((nets, *written(nets, "head"), sides))
    return found


def as_fraction(test, told):
    test.assertIs(type(told), tuple)
    test.assertEqual(math.gcd(*told), 1)
    test.assertGreater(told[1], 0)
    return Fraction(*told)


class TestBest(unittest.TestCase):
    def test_by_all_choices(self):
        met = set()
        for nets, answers, right, sides in wishes():
            best = max(slow_worth(nets, right, sides, choice) for choice in coin_choices(nets, answers, sides))
            told = as_fraction(self, best_worth(nets=nets, answers=answers, right=right, sides=sides))
            self.assertEqual(told, best)
            choice = best_coins(nets=nets, answers=answers, right=right, sides=sides)
            self.assertIs(is_coin_choice(nets=nets, answers=answers, sides=sides, thing=choice), True)
            self.assertEqual(Fraction(*worth_of(nets=nets, answers=answers, right=right, sides=sides, choice=choice)),
                             best)
            self.assertEqual(slow_worth(nets, right, sides, choice), best)
            met.add((best == 0, best == len(nets), sides))
        self.assertEqual(len(met), 6)

    def test_shape_of_a_choice(self):
        nets = [R, PAIR, LONE]
        answers, right = written(nets, "head")
        choice = best_coins(nets, answers, right, 2)
        self.assertIs(type(choice), list)
        for net, part in zip(nets, choice):
            self.assertIs(type(part), dict)
            self.assertEqual(list(part), list(itertools.product(range(2), repeat=len(net))))
            self.assertTrue(all(type(row) is tuple and len(row) == len(net) for row in part.values()))
        self.assertEqual(best_coins(tuple(nets), tuple(answers), right, 2), choice)
        words = best_coins([PAIR], [["b", [0]], "a"], lambda index, told: told[0] == ("b", (0,)), 1)
        self.assertEqual(words, [{(0, 0): (("b", (0,)), ("b", (0,)))}])

    def test_facts(self):
        strong = [[PAIR], [ring("aaa")], [ring("ab")], [K], [ring("aaaa")], [PAIR, ring("aaa")], [HALF]]
        for nets in strong:
            for word in ("head", "names"):
                answers, right = written(nets, word)
                for sides in (1, 2):
                    if len(answers) ** max(map(len, nets)) > 300:
                        continue
                    best = Fraction(*best_worth(nets, answers, right, sides))
                    self.assertTrue(all(is_strong(net) for net in nets))
                    self.assertGreaterEqual(best, sum(Fraction(*unlike_chance(net, sides)) for net in nets))
                    sure = first_choice(nets, answers, right, None) is not None
                    self.assertEqual(best == len(nets), sure)
        for nets, answers, right, sides in wishes():
            if sides == 1:
                one = Fraction(*best_worth(nets, answers, right, 1))
                best = max(sum(bool(right(index, choice[index][(0,) * len(net)])) for index, net in enumerate(nets))
                           for choice in coin_choices(nets, answers, 1))
                self.assertEqual(one, best)
                self.assertEqual(one == len(nets), first_choice(nets, answers, right, None) is not None)
                two = Fraction(*best_worth(nets, answers, right, 2))
                self.assertGreaterEqual(two, one)
                self.assertEqual(two == len(nets), one == len(nets))

    def test_of_s_times_t_sides(self):
        for seed in range(8):
            nets = [[LONE], [PAIR], [K], [Net(["a", "a"], [])]][seed % 4]
            right = chance_wish(seed, 0.5)
            worths = [Fraction(*best_worth(nets, [0, 1], right, sides)) for sides in (1, 2, 4)]
            self.assertEqual(worths, sorted(worths))

    def test_right_is_asked_once(self):
        for nets, answers, right, sides in wishes()[::3]:
            watched, asked = asked_once(right)
            for call in (lambda: best_worth(nets, answers, watched, sides),
                         lambda: best_coins(nets, as_lists(answers), watched, sides),
                         lambda: plan_worth(nets, answers, watched, mix_plan(), 1, sides)):
                asked.clear()
                call()
                self.assertEqual(len(asked), len(set(asked)))
                self.assertTrue(all(type(row) is tuple and len(row) == len(nets[index]) for index, row in asked))
            choice = best_coins(nets, answers, right, sides)
            asked.clear()
            worth_of(nets, answers, watched, sides, choice)
            self.assertEqual(len(asked), len(set(asked)))

    def test_limits(self):
        begin = time.time()
        answers, right = written([ring("aaaaaa")], "head")
        self.assertEqual(best_worth([ring("aaaaaa")], answers, right, 2), (27, 32))
        nets = [Net(["a"] * 9, [])]
        self.assertEqual(best_worth(nets, [0, 1], lambda index, told: told.count(1) == 1, 2), (9, 512))
        nets = [Net(["a"] * 2, []), Net(["a"], [])]
        right = chance_wish(5, 0.5)
        # Twelve kinds in one lot: 4096 choices.
        worth = Fraction(*best_worth(nets, [0, 1], right, 12))
        choice = best_coins(nets, [0, 1], right, 12)
        self.assertEqual(slow_worth(nets, right, 12, choice), worth)
        self.assertEqual(best_worth([Net(["a"], [])], [7], lambda index, told: True, 600), (1, 1))
        self.assertLess(time.time() - begin, 20)


class TestChoices(unittest.TestCase):
    def test_what_is_none(self):
        good = [{(0, 0): (0, 0), (0, 1): (0, 1), (1, 0): (1, 0), (1, 1): (0, 0)}]
        self.assertTrue(is_coin_choice([PAIR], [0, 1], 2, good))
        self.assertTrue(is_coin_choice([PAIR], [0, 1], 2, (good[0],)))
        self.assertTrue(is_coin_choice([PAIR], [0, 1], 2, [{throw: list(row) for throw, row in good[0].items()}]))
        part = good[0]
        bad = [[], good + good, [list(part.items())], [None], [{**part, (1, 1): (0, 1)}], [{**part, (1, 0): (0, 1)}],
               [{**part, (2, 0): (0, 0)}], [{**part, "a": (0, 0)}], [{**part, (0, 0, 0): (0, 0)}],
               [{throw: row for throw, row in part.items() if throw != (0, 0)}],
               [{(True if throw == (1, 1) else throw[0], throw[1]): row for throw, row in part.items()}],
               [{**part, (1, 1): (0,)}], [{**part, (1, 1): (0, 0, 0)}], [{**part, (1, 1): (False, False)}],
               [{**part, (1, 1): (2, 2)}], [{**part, (1, 1): 0}], [{**part, (1, 1): "00"}],
               [{**part, (1, 1): {0: 0, 1: 0}}], good[0]] + ANY_OBJECTS + [[thing] for thing in ANY_OBJECTS]
        bad += [[{**part, (1, 1): (thing, thing)}] for thing in not_words()]
        for thing in bad:
            self.assertIs(is_coin_choice([PAIR], [0, 1], 2, thing), False, thing)
            faults(lambda choice: worth_of([PAIR], [0, 1], len, 2, choice), BadChoice, "thing", [(thing, thing)])

    def test_alike_places_of_two_nets(self):
        rows, _ = kind_rows([PAIR, HALF_AS_PAIR], 2)
        good = [{throw: tuple(kind % 2 for kind in rows[index, throw]) for throw in throws_of(net, 2)}
                for index, net in enumerate([PAIR, HALF_AS_PAIR])]
        self.assertTrue(is_coin_choice([PAIR, HALF_AS_PAIR], [0, 1], 2, good))
        good[1][(0,)] = (1 - good[1][(0,)][0],)
        self.assertFalse(is_coin_choice([PAIR, HALF_AS_PAIR], [0, 1], 2, good))

    def test_worth_of_all_choices(self):
        for nets, answers, right, sides in wishes()[::4]:
            for choice in itertools.islice(coin_choices(nets, answers, sides), 40):
                self.assertTrue(is_coin_choice(nets, answers, sides, choice))
                worth = as_fraction(self, worth_of(nets, answers, right, sides, choice))
                self.assertEqual(worth, slow_worth(nets, right, sides, choice))

    def test_words_as_lists(self):
        choice = [{(0,): [["w", [1]]]}]
        self.assertTrue(is_coin_choice([LONE], [("w", (1,))], 1, choice))
        self.assertEqual(worth_of([LONE], [["w", [1]]], lambda index, told: told == (("w", (1,)),), 1, choice), (1, 1))


HALF_AS_PAIR = Net(["a"], [(0, 0, "", "")])


class TestPlanWorth(unittest.TestCase):
    def test_runs(self):
        met = set()
        for at, (nets, answers, right, sides) in enumerate(wishes()):
            for rounds in (0, 1, 2):
                for modulus in (2, 5):
                    plan = mix_plan(modulus)[:3] + (lambda state: answers[state] if state < len(answers) else None,)
                    wanted = Fraction(0)
                    for index, _, net in all_thrown(nets, sides):
                        row = told(net, plan, rounds)
                        good = all(answer in answers for answer in row) and right(index, tuple(row))
                        wanted += Fraction(bool(good), sides ** len(net))
                    worth = as_fraction(self, plan_worth(nets=nets, answers=answers, right=right, plan=plan,
                                                         rounds=rounds, sides=sides))
                    self.assertEqual(worth, wanted)
                    best = Fraction(*best_worth(nets, answers, right, sides))
                    self.assertLessEqual(worth, best)
                    met.add(0 if worth == 0 else 2 if worth == best else 1)
        self.assertEqual(met, {0, 1, 2})

    def test_some_plan_has_the_best(self):
        """Of a best choice a wish on all thrown nets is made, which its plan fulfils."""
        for nets, answers, right, sides in wishes()[::3]:
            choice = best_coins(nets, answers, right, sides)
            rows = all_thrown(nets, sides)
            lot = [net for _, _, net in rows]
            wanted = [choice[index][throw] for index, throw, _ in rows]
            plan = plan_for(lot, answers, lambda at, given: given == wanted[at], None)
            self.assertEqual(plan_worth(nets, answers, right, plan, rounds_of(lot), sides),
                             best_worth(nets, answers, right, sides))
            self.assertEqual(sum(len(kind) for kind in kinds_of(lot, rounds_of(lot))), sum(map(len, lot)))

    def test_asked_once(self):
        counting = Counting(mix_plan(3))
        plan_worth([PAIR, R], [0, 1], lambda index, answers: True, counting.functions, 2, 2)
        self.assertEqual(len(counting.asked), len(set(map(repr, counting.asked))))

    def test_no_word_net_by_net_throws_ascending(self):
        met = []

        def begin(sign):
            met.append(sign)
            return {} if sign[1] == 1 else sign

        plan = (begin, len, len, len)
        with self.assertRaises(NoWord) as caught:
            plan_worth([PAIR, R], [0], lambda index, answers: True, plan, 0, 2)
        self.assertEqual(caught.exception.thing, {})
        self.assertEqual(met, [("a", 0), ("a", 1)])

    def test_any_answers(self):
        for thing in ANY_OBJECTS:
            plan = (lambda sign: 0, lambda state, out: 0, lambda state, heard: 0, lambda state: thing)
            worth = plan_worth([PAIR], [5, (0, 0)], lambda index, answers: True, plan, 1, 2)
            self.assertEqual(worth, (1, 1) if thing in (5, (0, 0)) and type(thing) is not bool else (0, 1))


class TestErrors(unittest.TestCase):
    def calls(self, nets, answers, right, sides, plan=None, rounds=None):
        told = [lambda: is_coin_choice(nets, answers, sides, None)]
        told += [lambda: worth_of(nets, answers, right, sides, None), lambda: best_worth(nets, answers, right, sides),
                 lambda: best_coins(nets, answers, right, sides),
                 lambda: plan_worth(nets, answers, right, plan, rounds, sides)]
        return told

    def check(self, error, held, calls):
        for call in calls:
            faults(lambda thing: call(), error, "index" if error in (BadNets, BadAnswers) else "thing", [(held, held)])

    def test_in_order(self):
        for thing in ANY_OBJECTS:
            if not isinstance(thing, (list, tuple)) or len(thing) == 0:
                self.check(BadNets, 0, self.calls(thing, None, None, None))
                self.check(BadAnswers, 0, self.calls([R], thing, None, None))
            if not isinstance(thing, Net):
                self.check(BadNets, 1, self.calls([R, thing], None, None, None))
            if not callable(thing):
                self.check(BadRight, thing, self.calls([R], [0], thing, None)[1:])
            self.check(BadPlan, thing, self.calls([R], [0], len, None, thing)[4:])
            if type(thing) is not int or thing < 0:
                self.check(BadNumber, thing, self.calls([R], [0], len, None, mix_plan(), thing)[4:])
            if type(thing) is not int or thing < 1:
                self.check(BadSides, thing, self.calls([R], [0], len, thing, mix_plan(), 0))
        for thing in not_words() + ["a", ["b"]]:
            self.check(BadAnswers, 2, self.calls([R], ["a", ("b",), thing, None], None, None))
        self.assertTrue(bad_sides())

    def test_errors_go_through(self):
        class Own(Exception):
            pass

        def right(index, answers):
            raise Own

        for call in (lambda: best_worth([LONE], [0], right, 1), lambda: best_coins([LONE], [0], right, 1),
                     lambda: worth_of([LONE], [0], right, 1, [{(0,): (0,)}]),
                     lambda: plan_worth([LONE], [0], right, (lambda sign: 0, len, len, lambda state: 0), 0, 1)):
            with self.assertRaises(Own):
                call()

    def test_what_was_passed_is_changed(self):
        nets, answers = [S], [["a"], "b"]

        def right(index, told):
            nets.clear()
            answers.clear()
            return told[0] == ("a",)

        self.assertEqual(best_worth(nets, answers, right, 1), (1, 1))


if __name__ == "__main__":
    unittest.main()
