import random
import unittest

from hallclock.heap import Heap


def drained(heap):
    items = []
    while heap.many() > 0:
        items.append(heap.take())
    return items


class HeapTest(unittest.TestCase):
    def test_nothing_there(self):
        heap = Heap()
        for _ in range(2):
            self.assertIsNone(heap.least())
            self.assertIsNone(heap.take())
            self.assertEqual(heap.many(), 0)

    def test_one_item(self):
        heap = Heap()
        self.assertIsNone(heap.put((5,)))
        self.assertEqual(heap.many(), 1)
        self.assertEqual(heap.least(), (5,))
        self.assertEqual(heap.least(), (5,))
        self.assertEqual(heap.many(), 1)
        self.assertEqual(heap.take(), (5,))
        self.assertEqual(heap.many(), 0)
        self.assertIsNone(heap.least())
        self.assertIsNone(heap.take())

    def test_in_every_order(self):
        items = [(3,), (1,), (2,), (1,), (5,)]
        for seed in range(60):
            random.Random(seed).shuffle(items)
            heap = Heap()
            for item in items:
                heap.put(item)
            self.assertEqual(heap.many(), 5)
            self.assertEqual(drained(heap), [(1,), (1,), (2,), (3,), (5,)])

    def test_alike_items(self):
        heap = Heap()
        for _ in range(7):
            heap.put((4, 4))
        heap.put((4, 3))
        self.assertEqual(drained(heap), [(4, 3)] + [(4, 4)] * 7)

    def test_nought_is_an_item(self):
        heap = Heap()
        heap.put((0,))
        self.assertEqual(heap.least(), (0,))
        self.assertEqual(heap.take(), (0,))
        self.assertIsNone(heap.take())

    def test_several_numbers(self):
        heap = Heap()
        items = [(1, 2, 3), (1, 2, -3), (-1, 9, 9), (1, -2, 9), (0, 0, 0), (-1, 9, 8)]
        for item in items:
            heap.put(item)
        self.assertEqual(drained(heap), sorted(items))

    def test_puts_and_takes_by_turns(self):
        for seed in range(40):
            dice = random.Random(seed)
            width = dice.randint(1, 3)
            heap, items = Heap(), []
            for _ in range(300):
                if dice.random() < 0.6:
                    item = tuple(dice.randint(-6, 6) * dice.choice((1, 10 ** 20)) for _ in range(width))
                    heap.put(item)
                    items = sorted(items + [item])
                else:
                    wanted = items.pop(0) if items else None
                    self.assertEqual(heap.take(), wanted)
                self.assertEqual(heap.many(), len(items))
                self.assertEqual(heap.least(), items[0] if items else None)
            self.assertEqual(drained(heap), items)

    def test_rising_and_falling(self):
        for items in ([(n,) for n in range(100)], [(-n,) for n in range(100)]):
            heap = Heap()
            for item in items:
                heap.put(item)
            self.assertEqual(drained(heap), sorted(items))

    def test_two_heaps(self):
        one, other = Heap(), Heap()
        one.put((1,))
        self.assertEqual(other.many(), 0)
        self.assertIsNone(other.least())
        other.put((0,))
        self.assertEqual((one.least(), other.least()), ((1,), (0,)))
        one.take()
        self.assertEqual((one.many(), other.many()), (0, 1))


if __name__ == "__main__":
    unittest.main()
