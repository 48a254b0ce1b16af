"""Promise [75]: plain houses and their heaps."""

import unittest

from swaykeep.errors import NoHeap
from swaykeep.houses import House
from swaykeep.plain import heap_of, is_plain, plain_house
from tests.samples import BIG, STRANGE, Angry, Numbers, Refusals, Yes, some_houses


class PlainTest(Refusals, unittest.TestCase):
    def test_nobody_lends(self):
        self.assertIs(True, is_plain(House(((3, 1),))))
        self.assertIs(False, is_plain(House(((3, 1), (3, 1)), ((0, 1, 1),))))
        for house in some_houses(60):
            self.assertIs(house.helps() == (), is_plain(house))

    def test_heaps(self):
        self.assertEqual([(3, 1, 1)], heap_of(House(((3, 1),))))
        self.assertEqual([(-2, -4, 1), (3, 1, 2), (3, 2, 1)], heap_of(House(((3, 2), (3, 1), (-2, -4), (3, 1)))))
        self.assertEqual([(BIG, -BIG, 14)], heap_of(House(((BIG, -BIG),) * 14)))
        for seed in range(40):
            numbers = Numbers(seed)
            pairs = tuple((numbers.between(1, 3), numbers.between(-2, 0)) for _ in range(1 + seed % 14))
            told = heap_of(House(pairs))
            self.assertEqual(sorted({(up, down, pairs.count((up, down))) for up, down in pairs}), told)
            self.assertEqual(House(tuple(sorted(pairs))), plain_house(told))
            self.assertEqual(told, heap_of(plain_house(told)))
            self.assertTrue(is_plain(plain_house(told)))

    def test_of_one_and_of_fourteen(self):
        self.assertEqual(House(((3, 1),)), plain_house([(3, 1, 1)]))
        self.assertEqual(House(((3, 1),) * 14), plain_house([(3, 1, 14)]))
        self.assertEqual(House(((0, -1),) * 6 + ((3, 1),) * 8),
                         plain_house([(0, -1, 6), (3, 1, 8)]))
        every = [(k, k - 1, 1) for k in range(14)]
        self.assertEqual(House(tuple((up, down) for up, down, _ in every)), plain_house(every))

    def test_no_heaps(self):
        good = [(0, -1, 2), (3, 1, 1), (3, 2, 1)]
        self.assertEqual(4, len(plain_house(good)))
        wrong = [*STRANGE, tuple(good), [], good[::-1], [good[0], good[2], good[1]], [*good, good[2]],
                 [(3, 1, 1), (3, 1, 2)], [(3, 1, 15)], [(3, 1, 10 ** 29)], [(3, 1, 0)], [(3, 1, -1)], [(3, 3, 1)],
                 [(3, 4, 1)], [(3, 1)], [(3, 1, 1, 1)], [[3, 1, 1]], [(3, 1, True)], [(True, 0, 1)], [(3, False, 1)],
                 [(3, 1, 1.0)], [(3.0, 1, 1)], [("3", 1, 1)], [(3, 1, None)], [(3, None, 1)], [Angry()], [Yes()],
                 [(Angry(), 1, 1)], [(3, 1, Yes())], [*good, None], [(k, k - 1, 1) for k in range(15)],
                 [(0, -1, 7), (3, 1, 8)], [(0, -1, 5), (3, 1, 0)], [(0, -1, 5), (3, 1, -1)], [(0, -1, 0), (3, 1, 5)]]
        for thing in wrong:
            self.refused(NoHeap, {}, lambda: plain_house(thing))

    def test_lends(self):
        for house in some_houses(60):
            if house.helps():
                self.refused(NoHeap, {}, lambda: heap_of(house))

    def test_copies(self):
        house = House(((3, 1), (3, 1)))
        heap_of(house).append(None)
        self.assertEqual([(3, 1, 2)], heap_of(house))
        heap = [(3, 1, 2)]
        made = plain_house(heap)
        heap.clear()
        self.assertEqual(house, made)


if __name__ == "__main__":
    unittest.main()
