import unittest
from itertools import permutations

from roundpost.alike import local_orders, order_ring, order_ring_holds, rota_for
from roundpost.errors import BadOrders, BadRota
from samples import (
    ALONE, APART, FOURTEEN_PARALLEL, FOURTEEN_ROADS, LINE, LINE_OF_TEN, PARALLEL, SQUARE, STAR, T, TRIANGLE, WEBS,
    Touchy, all_rotas, names_of, odd_things, small_webs, some_rotas,
)
from slow import all_orders, slow_ahead, slow_orders, slow_rota_for

ORDERS = [("r",), ("s", "r"), ("u", "s", "t"), ("t",), ("u",)]


class RotaFor(unittest.TestCase):
    def test_by_hand(self):
        self.assertEqual(rota_for(T, ORDERS), ("u", "s", "r", "t"))
        self.assertEqual(rota_for(ALONE, [()]), ())
        self.assertEqual(rota_for(APART, [(), ()]), ())
        self.assertEqual(rota_for(PARALLEL, [("q", "p"), ("q", "p")]), ("q", "p"))
        self.assertIsNone(rota_for(PARALLEL, [("q", "p"), ("p", "q")]))
        self.assertIsNone(rota_for(TRIANGLE, [("x", "z"), ("y", "x"), ("z", "y")]))

    def test_orders_of_rotas(self):
        for web in WEBS:
            for rota in some_rotas(web):
                found = rota_for(web, local_orders(web, rota))
                self.assertEqual(slow_orders(web, found), slow_orders(web, rota))
                self.assertIsNone(order_ring(web, local_orders(web, rota)))

    def test_all_local_orders(self):
        for web in [T, STAR, TRIANGLE, PARALLEL, ALONE, APART] + small_webs()[::37]:
            first = {}
            for rota in all_rotas(web):
                first.setdefault(str(slow_orders(web, rota)), rota)
            for orders in all_orders(web)[::3]:
                found = rota_for(web, orders)
                self.assertEqual(found, first.get(str(orders)))
                self.check_ring(web, orders, found)
        self.assertEqual(rota_for(STAR, slow_orders(STAR, ("o", "s", "q", "p"))), ("o", "s", "q", "p"))

    def check_ring(self, web, orders, rota):
        ring = order_ring(web, orders)
        if rota is not None:
            self.assertIsNone(ring)
            self.assertIs(order_ring_holds(web, orders, ring), False)
            return
        self.assertIs(type(ring), tuple)
        self.assertGreaterEqual(len(ring), 2)
        self.assertEqual(len(set(ring)), len(ring))
        for one, other in zip(ring, ring[1:] + ring[:1]):
            self.assertTrue(slow_ahead(orders, one, other))
        self.assertIs(order_ring_holds(web, orders, ring), True)

    def test_square(self):
        for orders in all_orders(SQUARE)[::2]:
            self.assertEqual(rota_for(SQUARE, orders), slow_rota_for(SQUARE, orders))
            self.check_ring(SQUARE, orders, rota_for(SQUARE, orders))

    def test_in_a_tree_there_is_always_one(self):
        for web in [T, STAR, LINE]:
            for orders in all_orders(web):
                self.assertIsNotNone(rota_for(web, orders))

    def test_many_roads(self):
        names = names_of(FOURTEEN_PARALLEL)
        self.assertEqual(rota_for(FOURTEEN_PARALLEL, [names[::-1]] * 2), names[::-1])
        self.check_ring(FOURTEEN_PARALLEL, [names, names[1:] + names[:1]], None)
        self.check_ring(FOURTEEN_PARALLEL, [names[::-1], names], None)
        orders = local_orders(FOURTEEN_ROADS, names)
        turned = [one[::-1] if k == 3 else one for k, one in enumerate(orders)]
        self.check_ring(FOURTEEN_ROADS, turned, rota_for(FOURTEEN_ROADS, turned))
        self.assertEqual(rota_for(FOURTEEN_ROADS, orders), names)
        line = names_of(LINE_OF_TEN)
        self.assertEqual(rota_for(LINE_OF_TEN, local_orders(LINE_OF_TEN, line[::-1])), line[::-1])


class OrderRings(unittest.TestCase):
    def test_near_or_far(self):
        web = (("a", "b", "c"), (("w", "a", "b"), ("x", "a", "b"), ("y", "b", "c"), ("z", "b", "a")))
        orders = [("w", "x", "z"), ("z", "y", "w", "x"), ("y",)]
        self.assertIsNone(rota_for(web, orders))
        for ring in [("w", "z"), ("z", "w"), ("x", "z"), ("w", "x", "z"), ("z", "y", "w"), ("w", "z", "y"),
                     ("z", "y", "w", "x"), ("z", "w", "x"), ("y", "x", "z"), ("x", "z", "y")]:
            self.assertIs(order_ring_holds(web, orders, ring), True)
        for ring in [("w", "x"), ("x", "w"), ("y", "w"), ("w", "y", "z"), ("y", "z", "w"), ("w",), (), ("w", "z", "w"),
                     ("w", "w"), ("w", "z", "w", "z"), ("x", "w", "z"), ("z", "x", "w"), ("y", "y")]:
            self.assertIs(order_ring_holds(web, orders, ring), False)

    def test_all_tuples_of_roads(self):
        for orders in [[("q", "p"), ("p", "q")], [("p", "q"), ("p", "q")]]:
            for ring in [("p", "q"), ("q", "p"), ("p",), ("q",), ()]:
                self.assertIs(order_ring_holds(PARALLEL, orders, ring), len(ring) == 2 and orders[0] != orders[1])
        for orders in all_orders(SQUARE)[::7]:
            for many in range(6):
                for ring in permutations(names_of(SQUARE), many):
                    expected = many > 1 and all(slow_ahead(orders, one, other)
                                                for one, other in zip(ring, ring[1:] + ring[:1]))
                    self.assertIs(order_ring_holds(SQUARE, orders, ring), expected)

    def test_other_objects(self):
        orders = [("q", "p"), ("p", "q")]
        for thing in odd_things() + [
            ["p", "q"], "pq", ("p", None), ("p", ("q",)), (("p", "q"),), {"p", "q"}, ("p", "x"), ("p", Touchy()),
            (Touchy(), "p"), ("p", True), ("p", 0), ("P", "q"), ("p", "q", "p"),
        ]:
            self.assertIs(order_ring_holds(PARALLEL, orders, thing), False)


class WrongOrders(unittest.TestCase):
    def with_middle(self, thing):
        """ORDERS with another entry for the place that three roads have in common."""
        return ORDERS[:2] + [thing] + ORDERS[3:]

    def test_wrong_entries(self):
        for thing in odd_things() + [
            ["u", "s", "t"], ("u", "s"), ("u", "s", "t", "r"), ("u", "s", "s"), ("u", "s", "t", "t"), ("u", "s", "x"),
            ("r", "s", "t"), ("u", "s", None), ("u", "s", ("t",)), ("u", "s", True), ("u", "s", Touchy()), "ust", (),
            (("u", "s", "t"),), ("s", "r"), {"u", "s", "t"}, ("u", "S", "t"),
        ]:
            self.check_wrong(self.with_middle(thing))
        self.assertEqual(rota_for(T, self.with_middle(("t", "s", "u"))), ("t", "s", "r", "u"))

    def test_wrong_at_every_depth(self):
        for thing in odd_things() + [
            tuple(ORDERS), ORDERS[:4], ORDERS + [()], [list(one) for one in ORDERS], [set(one) for one in ORDERS],
            ["r", "sr", "ust", "t", "u"], [Touchy()] * 5, [()] * 5, [ORDERS], dict.fromkeys(range(5)), ORDERS[::-1],
            [("s",)] + ORDERS[1:], [()] + ORDERS[1:],
        ]:
            self.check_wrong(thing)
        for thing in [[], (), ((),), [[]], [None], [("r",)], [(), ()]]:
            self.assertRaises(BadOrders, rota_for, ALONE, thing)

    def check_wrong(self, thing):
        for call, more in [(rota_for, ()), (order_ring, ()), (order_ring_holds, (("r", "s"),))]:
            self.assertRaises(BadOrders, call, T, thing, *more)

    def test_orders_that_no_rota_has_are_right(self):
        self.assertIsNotNone(order_ring(PARALLEL, [("q", "p"), ("p", "q")]))
        self.assertRaises(BadRota, local_orders, PARALLEL, ("p",))


if __name__ == "__main__":
    unittest.main()
