"""The blocks of the document's section "Examples"."""

import unittest

from reslot.books import Book, check_timetable
from reslot.costs import cheapest, check_cheapest, most_granted
from reslot.errors import Frozen, NoBook, NoCertificate, NoCosts, NoMove, NotAllowed, NoTimetable, NoWish
from reslot.moves import moved, moves, reached
from reslot.opening import check_tight, frozen, open_slots, vacated
from reslot.options import bring, check_insert, insert, options
from reslot.plans import check_plan, least, plan
from reslot.releasing import cancelled, check_cancelled, fewest_cancelled, tight_sets
from reslot.wishes import check_granted, granted


class Examples(unittest.TestCase):
    def test_book_with_an_item_in_another_order(self):
        with self.assertRaises(NoBook) as caught:
            Book(3, [[0, 2], [2, 1]])
        self.assertEqual(caught.exception.index, 1)

    def test_allowed(self):
        self.assertEqual(Book(3, [[0, 2], [1]]).allowed(0), [0, 2])

    def test_slot_that_occurs_twice(self):
        book = Book(3, [[0, 2], [1, 2]])
        with self.assertRaises(NoTimetable) as caught:
            check_timetable(book, (2, 2))
        self.assertEqual(caught.exception.index, 1)

    def test_moves(self):
        book = Book(3, [[0, 2], [1, 2]])
        self.assertEqual(moves(book, (0, 1)), [(0, 2), (1, 2)])

    def test_moved_to_an_occupied_slot(self):
        book = Book(3, [[0, 2], [1, 2]])
        with self.assertRaises(NoMove) as caught:
            moved(book, (0, 1), [(0, 2), (1, 2)])
        self.assertEqual(caught.exception.index, 1)

    def test_reached(self):
        book = Book(3, [[0, 2], [1, 2]])
        self.assertEqual(reached(book, (0, 1)), [(0, 1), (0, 2), (2, 1)])

    def test_open_slots_and_frozen(self):
        book = Book(4, [[0, 1], [0, 1], [1, 2, 3]])
        self.assertEqual([open_slots(book, (0, 1, 2)), frozen(book, (0, 1, 2))], [[2, 3], (0, 1)])

    def test_check_tight(self):
        book = Book(4, [[0, 1], [0, 1], [1, 2, 3]])
        with self.assertRaises(NoCertificate) as caught:
            check_tight(book, (0, 1, 2), (0, 2))
        self.assertEqual(caught.exception.index, 2)

    def test_vacated(self):
        book = Book(3, [[0, 1], [1, 2]])
        self.assertEqual(vacated(book, (0, 1), 0), [(1, 2), (0, 1)])

    def test_vacated_of_a_closed_slot(self):
        book = Book(3, [[0, 1], [0, 1]])
        with self.assertRaises(Frozen) as caught:
            vacated(book, (0, 1), 1)
        self.assertEqual(caught.exception.slots, (0, 1))

    def test_plan_with_a_frozen_appointment(self):
        book = Book(3, [[0, 1], [0, 1]])
        self.assertEqual(plan(book, (0, 1), (1, 0)), ("frozen", 0, (0, 1)))

    def test_plan(self):
        book = Book(3, [[0, 1], [0, 1, 2]])
        self.assertEqual(plan(book, (0, 1), (1, 0)), ("plan", [(1, 2), (0, 1), (1, 0)]))

    def test_least(self):
        book = Book(3, [[0, 1], [0, 1, 2]])
        self.assertEqual(least(book, (0, 1), (1, 0)), 3)

    def test_check_plan(self):
        book = Book(3, [[0, 1], [0, 1, 2]])
        with self.assertRaises(NoCertificate) as caught:
            check_plan(book, (0, 1), (1, 0), ("plan", [(1, 2), (0, 1)]))
        self.assertEqual(caught.exception.index, 2)

    def test_options(self):
        book = Book(4, [[0, 1], [1, 2], [3]])
        self.assertEqual([options(book, (0, 1, 3), 0), options(book, (0, 1, 3), 2)], [[0, 1], [3]])

    def test_bring(self):
        book = Book(4, [[0, 1], [1, 2], [3]])
        self.assertEqual(bring(book, (0, 1, 3), 0, 1), [(1, 2), (0, 1)])

    def test_bring_to_a_slot_that_is_not_allowed(self):
        book = Book(4, [[0, 1], [1, 2], [3]])
        with self.assertRaises(NotAllowed) as caught:
            bring(book, (0, 1, 3), 0, 2)
        self.assertEqual(caught.exception.slot, 2)

    def test_bring_to_a_closed_slot(self):
        book = Book(4, [[0, 1], [0, 1], [1, 2], [3]])
        with self.assertRaises(Frozen) as caught:
            bring(book, (0, 1, 2, 3), 0, 1)
        self.assertEqual(caught.exception.slots, (0, 1, 2, 3))

    def test_insert(self):
        book = Book(4, [[0, 1], [1, 2], [3]])
        self.assertEqual([insert(book, (0, 1, 3), [0, 3]), insert(book, (0, 1, 3), [3])],
                         [("placed", [(1, 2), (0, 1)], 0), ("full", (3,))])

    def test_check_insert(self):
        book = Book(4, [[0, 1], [1, 2], [3]])
        with self.assertRaises(NoCertificate) as caught:
            check_insert(book, (0, 1, 3), [3], ("full", (3, 0)))
        self.assertEqual(caught.exception.index, 3)

    def test_tight_sets(self):
        book = Book(4, [[0, 1], [0, 1], [1, 2], [3]])
        self.assertEqual(tight_sets(book, (0, 1, 2, 3)), [(0, 1), (3,)])

    def test_cancelled(self):
        left, later = cancelled(Book(3, [[0], [0, 1], [2]]), (0, 1, 2), (0,))
        self.assertEqual((len(left), left.allowed(0), left.allowed(1), later), (2, [0, 1], [2], (1, 2)))

    def test_fewest_cancelled(self):
        book = Book(4, [[0, 1], [0, 1], [1, 2], [3]])
        gone, sets = fewest_cancelled(book, (0, 1, 2, 3))
        self.assertEqual((len(gone), sets), (2, [(0, 1), (3,)]))

    def test_check_cancelled(self):
        book = Book(4, [[0, 1], [0, 1], [1, 2], [3]])
        self.assertIsNone(check_cancelled(book, (0, 1, 2, 3), ((3, 1), [(3,), (1, 0)])))

    def test_check_cancelled_with_too_few_sets(self):
        book = Book(4, [[0, 1], [0, 1], [1, 2], [3]])
        with self.assertRaises(NoCertificate) as caught:
            check_cancelled(book, (0, 1, 2, 3), ((0, 3), [(0, 1, 2)]))
        self.assertEqual(caught.exception.index, 4)

    def test_granted(self):
        self.assertEqual(granted(Book(3, [[0, 1], [1, 2]]), (0, 1), {0: 1}), ("granted", (1, 2)))

    def test_granted_with_too_few_slots(self):
        self.assertEqual(granted(Book(3, [[0, 1], [1, 2]]), (0, 1), {0: 1, 1: 1}), ("short", (0, 1), (1,)))

    def test_granted_with_a_frozen_appointment(self):
        self.assertEqual(granted(Book(2, [[0, 1], [0, 1]]), (0, 1), {0: 1}), ("short", (0,), ()))

    def test_granted_without_a_slot(self):
        with self.assertRaises(NoWish) as caught:
            granted(Book(2, [[0, 1], [0, 1]]), (0, 1), {1: 2})
        self.assertEqual(caught.exception.key, 1)

    def test_check_granted(self):
        self.assertIsNone(check_granted(Book(3, [[0, 1], [1, 2]]), (0, 1), {0: 1}, ("granted", (1, 2))))

    def test_check_granted_with_another_slot(self):
        with self.assertRaises(NoCertificate) as caught:
            check_granted(Book(3, [[0, 1], [1, 2]]), (0, 1), {0: 1}, ("granted", (0, 2)))
        self.assertEqual(caught.exception.index, 2)

    def test_cheapest(self):
        self.assertEqual(cheapest(Book(3, [[0, 1], [1, 2]]), (0, 1), [[5, 1], [2, 4]])[:2], (5, (1, 2)))

    def test_check_cheapest(self):
        answer = (5, (1, 2), [0, 3, 0])
        self.assertIsNone(check_cheapest(Book(3, [[0, 1], [1, 2]]), (0, 1), [[5, 1], [2, 4]], answer))

    def test_check_cheapest_with_other_prices(self):
        with self.assertRaises(NoCertificate) as caught:
            check_cheapest(Book(3, [[0, 1], [1, 2]]), (0, 1), [[5, 1], [2, 4]], (5, (1, 2), [0, 5, 0]))
        self.assertEqual(caught.exception.index, 4)

    def test_cheapest_with_a_cost_too_few(self):
        with self.assertRaises(NoCosts) as caught:
            cheapest(Book(3, [[0, 1], [1, 2]]), (0, 1), [[5, 1], [2]])
        self.assertEqual(caught.exception.index, 1)

    def test_most_granted(self):
        self.assertEqual(most_granted(Book(3, [[0, 1], [1, 2]]), (0, 1), {0: 1, 1: 1})[0], 1)
