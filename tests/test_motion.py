"""Motion [25]: values that go to others in time."""

import unittest

from pagestack.errors import SizeError
from pagestack.motion import WAYS, Mover, Path, share_of


def values(first, last, length, way, start=0):
    """Return the values of a path from before its start until behind its end."""
    path = Path(first, last, start, length, way)
    return [path.value_at(time) for time in range(start - 1, start + length + 2)]


class Paths(unittest.TestCase):
    def test_ways(self):
        self.assertEqual(WAYS, ("even", "slow", "fast", "both"))
        for length, way in ((-1, "even"), (3, "quick"), (3, ""), (-1, "x")):
            with self.assertRaises(SizeError):
                Path(0, 1, 0, length, way)
        self.assertEqual(Path(3, 4, 0, 1, "even").first, 3)

    def test_shares(self):
        for gone, length, way, share in ((1, 4, "even", (1, 4)), (1, 4, "slow", (1, 16)), (1, 4, "fast", (7, 16)), (1, 4, "both", (2, 16)), (2, 4, "both", (8, 16)), (3, 4, "both", (14, 16)),
                                         (2, 5, "both", (8, 25)), (3, 5, "both", (17, 25)), (0, 3, "fast", (0, 9)), (3, 3, "slow", (9, 9)), (3, 3, "even", (3, 3)), (0, 1, "both", (0, 1))):
            self.assertEqual(share_of(gone, length, way), share, (gone, length, way))

    def test_each_way(self):
        for way, wanted in (("even", [0, 0, 25, 50, 75, 100, 100]), ("slow", [0, 0, 6, 25, 56, 100, 100]), ("fast", [0, 0, 43, 75, 93, 100, 100]), ("both", [0, 0, 12, 50, 87, 100, 100])):
            self.assertEqual(values(0, 100, 4, way), wanted, way)

    def test_odd_lengths(self):
        for way, wanted in (("even", [10, 10, 12, 14, 16, 18, 20, 20]), ("slow", [10, 10, 10, 11, 13, 16, 20, 20]), ("fast", [10, 10, 13, 16, 18, 19, 20, 20]),
                            ("both", [10, 10, 10, 13, 16, 19, 20, 20])):
            self.assertEqual(values(10, 20, 5, way, 7), wanted, way)

    def test_values_that_fall_are_rounded_down(self):
        for way, wanted in (("even", [0, 0, -4, -7, -10, -10]), ("slow", [0, 0, -2, -5, -10, -10]), ("fast", [0, 0, -6, -9, -10, -10]), ("both", [0, 0, -3, -8, -10, -10])):
            self.assertEqual(values(0, -10, 3, way), wanted, way)

    def test_lengths_of_0_and_1(self):
        for way in WAYS:
            self.assertEqual(values(1, 9, 1, way), [1, 1, 9, 9])
            self.assertEqual(values(1, 9, 0, way, 5), [1, 9, 9])

    def test_values_stay_between(self):
        for way in WAYS:
            for first, last in ((0, 7), (7, 0), (-3, 3), (5, 5), (1000, -999)):
                for length in range(12):
                    found = values(first, last, length, way)
                    self.assertEqual(sorted(found, reverse=last < first), found)
                    self.assertEqual((found[0], found[-1], found[-2]), (first, last, last))

    def test_the_end(self):
        path = Path(0, 1, 3, 4, "even")
        self.assertEqual([path.is_over(time) for time in (0, 3, 6, 7, 8)], [False, False, False, True, True])
        self.assertIs(Path(0, 1, 3, 0, "even").is_over(3), True)


class Movers(unittest.TestCase):
    def setUp(self):
        self.mover = Mover()
        self.mover.set_way("x", 10, "even")
        self.mover.go_to("x", 0)

    def ticks(self, many):
        """Return the values of x and what is told in some ticks."""
        return [(self.mover.tick(), self.mover.value_now("x")) for _ in range(many)]

    def test_a_new_mover(self):
        mover = Mover()
        self.assertEqual((mover.ways, mover.time, mover.moving(), mover.tick(), mover.time), ({}, 0, (), (), 1))
        with self.assertRaises(SizeError):
            mover.value_now("x")

    def test_the_first_value_is_there_at_once(self):
        self.assertEqual((self.mover.value_now("x"), self.mover.moving(), self.mover.tick(20)), (0, (), ()))

    def test_bad_ways(self):
        for length, way in ((-1, "even"), (1, "odd"), (1, "")):
            with self.assertRaises(SizeError):
                self.mover.set_way("x", length, way)
        self.assertEqual(self.mover.ways, {"x": (10, "even")})
        with self.assertRaises(SizeError):
            self.mover.value_now("y")

    def test_a_value_goes(self):
        self.mover.go_to("x", 4)
        self.assertEqual((self.mover.value_now("x"), self.mover.moving()), (0, ("x",)))
        self.assertEqual(self.ticks(12), [((), value) for value in (0, 0, 1, 1, 2, 2, 2, 3, 3)] + [(("x",), 4), ((), 4), ((), 4)])
        self.assertEqual(self.mover.moving(), ())

    def test_a_way_counts_from_now_on(self):
        self.mover.go_to("x", 10)
        self.mover.tick(2)
        self.mover.set_way("x", 4, "slow")
        self.assertEqual([value for _, value in self.ticks(3)], [3, 4, 5])
        self.mover.go_to("x", 21)
        self.assertEqual([value for _, value in self.ticks(4)], [6, 9, 14, 21])

    def test_without_a_way_a_value_is_there_at_once(self):
        self.mover.go_to("y", 1)
        self.mover.go_to("y", 5)
        self.assertEqual((self.mover.value_now("y"), self.mover.moving(), self.mover.tick(4), self.mover.value_now("y")), (5, (), (), 5))

    def test_no_tick_tells_a_way_without_ticks(self):
        for way in WAYS:
            self.mover.set_way("y", 0, way)
            for last in (1, -8, -8, 1, 0):
                self.mover.go_to("y", last)
                self.assertEqual((self.mover.value_now("y"), self.mover.moving()), (last, ()))
            self.assertEqual((self.mover.tick(0), self.mover.tick(), self.mover.tick(9), self.mover.value_now("y")), ((), (), (), 0))

    def test_a_way_without_ticks_ends_what_was_under_way(self):
        for gone, last in ((0, 7), (4, 20), (4, 10), (4, 4), (4, 0), (9, 0)):
            mover = Mover()
            for name in ("x", "z"):
                mover.set_way(name, 10, "even")
                mover.go_to(name, 0)
                mover.go_to(name, 10)
            mover.tick(gone)
            mover.set_way("x", 0, "even")
            self.assertEqual(mover.moving(), ("x", "z"))
            mover.go_to("x", last)
            self.assertEqual((mover.value_now("x"), mover.moving()), (last, ("z",)), (gone, last))
            self.assertEqual((mover.tick(10), mover.value_now("x"), mover.tick(10)), (("z",), last, ()), (gone, last))

    def test_a_way_with_ticks_behind_one_without(self):
        self.mover.go_to("y", 1)
        self.mover.go_to("y", 5)
        self.mover.set_way("y", 2, "even")
        self.mover.go_to("y", 1)
        self.assertEqual([(self.mover.tick(), self.mover.value_now("y")) for _ in range(3)], [((), 3), (("y",), 1), ((), 1)])

    def test_a_value_that_is_where_it_should_go_goes_nowhere(self):
        self.mover.go_to("x", 0)
        self.assertEqual((self.mover.moving(), self.mover.tick(30)), ((), ()))
        self.mover.go_to("x", 10)
        self.mover.tick(4)
        self.mover.go_to("x", 4)
        self.assertEqual((self.mover.moving(), self.mover.value_now("x"), self.mover.tick(30), self.mover.value_now("x")), ((), 4, (), 4))

    def test_turned_at_once(self):
        self.mover.go_to("x", 10)
        self.mover.go_to("x", 0)
        self.assertEqual((self.mover.moving(), self.mover.tick(10), self.mover.value_now("x")), ((), (), 0))

    def test_turned_on_the_way(self):
        self.mover.go_to("x", 10)
        self.mover.tick(4)
        self.mover.go_to("x", 0)
        self.assertEqual(self.ticks(5), [((), 3), ((), 2), ((), 1), (("x",), 0), ((), 0)])

    def test_turned_twice(self):
        self.mover.go_to("x", 10)
        self.mover.tick(6)
        self.mover.go_to("x", 0)
        self.mover.tick(2)
        self.mover.go_to("x", 6)
        self.assertEqual(self.ticks(2), [((), 5), (("x",), 6)])

    def test_a_way_back_takes_no_longer_than_is_told_now(self):
        self.mover.go_to("x", 10)
        self.mover.tick(8)
        self.mover.set_way("x", 2, "even")
        self.mover.go_to("x", 0)
        self.assertEqual(self.ticks(2), [((), 4), (("x",), 0)])

    def test_turned_after_the_end(self):
        self.mover.go_to("x", 10)
        self.mover.tick(10)
        self.mover.go_to("x", 0)
        self.assertEqual([value for _, value in self.ticks(10)], [9, 8, 7, 6, 5, 4, 3, 2, 1, 0])

    def test_elsewhere_on_the_way(self):
        self.mover.go_to("x", 10)
        self.mover.tick(5)
        self.mover.go_to("x", 25)
        self.assertEqual(self.ticks(10), [((), value) for value in (7, 9, 11, 13, 15, 17, 19, 21, 23)] + [(("x",), 25)])

    def test_to_the_same_aim_on_the_way(self):
        self.mover.go_to("x", 10)
        self.mover.tick(5)
        self.mover.go_to("x", 10)
        self.assertEqual(self.ticks(10), [((), value) for value in (5, 6, 6, 7, 7, 8, 8, 9, 9)] + [(("x",), 10)])

    def test_several_paths(self):
        for name, length in (("c", 3), ("a", 5), ("b", 5), ("d", 9)):
            self.mover.set_way(name, length, "fast")
            self.mover.go_to(name, 0)
            self.mover.go_to(name, 90)
        self.assertEqual(self.mover.moving(), ("a", "b", "c", "d"))
        self.assertEqual(self.mover.tick(2), ())
        self.assertEqual([self.mover.value_now(name) for name in "abcd"], [57, 57, 80, 35])
        self.assertEqual((self.mover.tick(4), self.mover.moving(), self.mover.time), (("a", "b", "c"), ("d",), 6))
        self.assertEqual((self.mover.tick(9), self.mover.tick(9)), (("d",), ()))


if __name__ == "__main__":
    unittest.main()
