"""[5], [6] Books and timetables."""

import unittest
from itertools import product

from reslot.books import Book, check_timetable
from reslot.errors import NoAppointment, NoBook, NoTimetable
from tests.helper import Everything, no_integers, raised, small_books


class Raises(unittest.TestCase):
    def assert_no_book(self, index, slots, allowed):
        error = raised(Book, slots, allowed)
        self.assertIs(type(error), NoBook)
        self.assertIs(type(error.index), int)
        self.assertEqual(error.index, index)

    def assert_no_timetable(self, index, book, timetable):
        error = raised(check_timetable, book, timetable)
        self.assertIs(type(error), NoTimetable)
        self.assertIs(type(error.index), int)
        self.assertEqual(error.index, index)


class Slots(Raises):
    def test_fewest_and_most(self):
        self.assertEqual(Book(1, [[0]]).size(), 1)
        self.assertEqual(Book(60, [[0, 59]]).size(), 60)
        self.assertEqual(Book(60, [[0, 59]]).allowed(0), [0, 59])

    def test_too_few_and_too_many(self):
        for slots in (0, 61, -1, -60, 10 ** 5000, -(10 ** 5000)):
            with self.subTest(slots > 0):
                self.assert_no_book(-1, slots, [])
                self.assert_no_book(-1, slots, [[0]])

    def test_no_integer(self):
        for slots in no_integers():
            with self.subTest(type(slots)):
                self.assert_no_book(-1, slots, [])
                self.assert_no_book(-1, slots, [[0]])


class Allowed(Raises):
    def test_no_list(self):
        for allowed in [1, *no_integers()]:
            if isinstance(allowed, list):
                continue
            with self.subTest(type(allowed)):
                self.assert_no_book(-1, 3, allowed)
        self.assert_no_book(-1, 3, ([0], [1]))

    def test_no_items(self):
        book = Book(3, [])
        self.assertEqual(len(book), 0)
        self.assertEqual(book.size(), 3)

    def test_most_items(self):
        self.assertEqual(len(Book(60, [[k] for k in range(60)])), 60)
        self.assertEqual(len(Book(1, [[0]] * 60)), 60)

    def test_too_many_items(self):
        self.assert_no_book(-1, 60, [[0]] * 61)
        self.assert_no_book(-1, 60, [[]] + [[0]] * 60)

    def test_invalid_items(self):
        wrong = [[], [-1], [3], [-1, 0], [0, 3], [0, 10 ** 5000], [1, 1], [0, 1, 1], [0, 0, 1], [1, 0], [0, 2, 1],
                 (0, 1), (0,), [True], [False], [0, True], [False, 1], [None], ["0"], ["a"], [(0,)], [[0]], [{}],
                 [{0: 1}], [0, None], [0, "1"], [0, (1,)], [0, [1]], [0, {1: 1}], 0, 5, -1]
        wrong += [value for value in no_integers() if not isinstance(value, list)]
        wrong += [[value] for value in no_integers()] + [[0, value] for value in no_integers()]
        for number, item in enumerate(wrong):
            with self.subTest(number):
                self.assert_no_book(0, 3, [item])
                self.assert_no_book(2, 3, [[0], [0, 1, 2], item])
                self.assert_no_book(1, 3, [[2], item, [0], item])

    def test_first_invalid_item(self):
        self.assert_no_book(0, 3, [[1, 0], [3], None])
        self.assert_no_book(1, 3, [[0], [3], [1, 0], None])
        self.assert_no_book(59, 60, [[k] for k in range(59)] + [[60]])
        self.assert_no_book(1, 3, [[0, 2], [2, 1]])

    def test_minus_one_goes_before_an_index(self):
        for slots in (0, 61, True, None):
            self.assert_no_book(-1, slots, [[0], []])
        self.assert_no_book(-1, 3, [None] * 61)

    def test_last_slot_is_below_the_number_of_slots(self):
        self.assertEqual(Book(3, [[0, 1, 2]]).allowed(0), [0, 1, 2])
        self.assert_no_book(0, 3, [[0, 1, 2, 3]])
        self.assert_no_book(0, 1, [[1]])


class Methods(Raises):
    def test_sizes_and_slots(self):
        for book, rows, size in small_books():
            self.assertEqual(book.size(), size)
            self.assertEqual(len(book), len(rows))
            self.assertEqual([book.allowed(k) for k in range(len(rows))], rows)

    def test_no_appointment(self):
        book = Book(3, [[0], [1, 2]])
        for value in [-1, -2, 2, 3, 10 ** 5000, *no_integers()]:
            with self.subTest(type(value)):
                error = raised(book.allowed, value)
                self.assertIs(type(error), NoAppointment)
                self.assertIs(error.appointment, value)

    def test_no_appointment_in_a_book_without_any(self):
        error = raised(Book(3, []).allowed, 0)
        self.assertIs(type(error), NoAppointment)
        self.assertEqual(error.appointment, 0)

    def test_equal(self):
        self.assertTrue(Book(3, [[0, 2], [1]]) == Book(3, [[0, 2], [1]]))
        self.assertFalse(Book(3, [[0, 2], [1]]) != Book(3, [[0, 2], [1]]))
        self.assertTrue(Book(3, []) == Book(3, []))

    def test_different(self):
        book = Book(3, [[0, 2], [1]])
        for other in (Book(4, [[0, 2], [1]]), Book(3, [[0, 2], [2]]), Book(3, [[1], [0, 2]]), Book(3, [[0, 2]]),
                      Book(3, [[0, 2], [1], [1]]), Book(3, [[0, 1, 2], [1]]), Book(3, [])):
            self.assertFalse(book == other)
            self.assertTrue(book != other)
        self.assertFalse(Book(3, []) == Book(4, []))

    def test_equal_to_a_book_only(self):
        book = Book(3, [[0, 2], [1]])
        for other in (3, None, True, "", [[0, 2], [1]], (3, [[0, 2], [1]]), {}, object(), Book, Everything()):
            self.assertFalse(book == other)
            self.assertTrue(book != other)
        self.assertFalse(Book(3, []) == [])
        self.assertFalse(Book(3, []) == 3)


class Copies(unittest.TestCase):
    def test_outer_list_changes(self):
        rows = [[0, 1], [2]]
        book = Book(3, rows)
        rows.append([1])
        rows[0] = [2]
        self.assertEqual(len(book), 2)
        self.assertEqual([book.allowed(0), book.allowed(1)], [[0, 1], [2]])

    def test_inner_list_changes(self):
        rows = [[0, 1], [2]]
        book = Book(3, rows)
        rows[0].append(2)
        rows[1].clear()
        self.assertEqual([book.allowed(0), book.allowed(1)], [[0, 1], [2]])
        self.assertTrue(book == Book(3, [[0, 1], [2]]))

    def test_returned_list_belongs_to_the_caller(self):
        book = Book(3, [[0, 1], [2]])
        book.allowed(0).append(9)
        book.allowed(0).clear()
        self.assertIs(type(book.allowed(0)), list)
        self.assertEqual(book.allowed(0), [0, 1])
        self.assertTrue(book == Book(3, [[0, 1], [2]]))

    def test_given_list_stays_as_it_is(self):
        rows = [[0, 1], [2]]
        inner = rows[0]
        Book(3, rows)
        self.assertEqual(rows, [[0, 1], [2]])
        self.assertIs(rows[0], inner)


class Timetables(Raises):
    def test_every_small_tuple(self):
        for book, rows, size in small_books():
            for timetable in product(range(-1, size + 1), repeat=len(rows)):
                wrong = [k for k, slot in enumerate(timetable) if slot not in rows[k] or slot in timetable[:k]]
                if wrong:
                    self.assert_no_timetable(wrong[0], book, timetable)
                else:
                    self.assertIsNone(check_timetable(book, timetable))

    def test_no_tuple(self):
        book = Book(3, [[0, 1], [1, 2]])
        for value in [0, [0, 1], *no_integers()]:
            if isinstance(value, tuple):
                continue
            with self.subTest(type(value)):
                self.assert_no_timetable(-1, book, value)

    def test_wrong_number_of_items(self):
        book = Book(4, [[0, 1], [1, 2]])
        for timetable in ((), (0,), (0, 1, 2), (0, 0, 0), (9,), (None, None, None)):
            self.assert_no_timetable(-1, book, timetable)

    def test_no_slot_of_the_appointment(self):
        book = Book(4, [[0, 1], [1, 2], [0, 3]])
        self.assert_no_timetable(0, book, (2, 1, 3))
        self.assert_no_timetable(1, book, (0, 3, 3))
        self.assert_no_timetable(1, book, (0, 0, 3))
        self.assert_no_timetable(2, book, (0, 1, 2))
        for slot in (-1, -3, 4, 60, 10 ** 5000):
            self.assert_no_timetable(0, book, (slot, 1, 3))
            self.assert_no_timetable(2, book, (0, 1, slot))

    def test_no_integer_inside(self):
        book = Book(4, [[0, 1], [1, 2], [0, 3]])
        for value in no_integers():
            with self.subTest(type(value)):
                self.assert_no_timetable(0, book, (value, 2, 3))
                self.assert_no_timetable(1, book, (0, value, 3))
                self.assert_no_timetable(2, book, (1, 2, value))
        self.assert_no_timetable(0, book, (True, 2, 3))
        self.assert_no_timetable(1, book, (0, True, 3))

    def test_slot_that_occurs_earlier(self):
        book = Book(4, [[0, 1], [0, 1], [0, 1, 2]])
        self.assert_no_timetable(1, book, (0, 0, 1))
        self.assert_no_timetable(2, book, (0, 1, 0))
        self.assert_no_timetable(2, book, (0, 1, 1))
        self.assert_no_timetable(1, book, (1, 1, 1))

    def test_first_wrong_item(self):
        book = Book(4, [[0, 1], [0, 1], [0, 1, 2]])
        self.assert_no_timetable(0, book, (3, 3, 3))
        self.assert_no_timetable(1, book, (0, 3, 0))
        self.assert_no_timetable(1, book, (0, 0, None))
        self.assert_no_timetable(0, book, (None, 0, 0))

    def test_no_appointments(self):
        book = Book(2, [])
        self.assertIsNone(check_timetable(book, ()))
        self.assert_no_timetable(-1, book, (0,))
        self.assert_no_timetable(-1, book, [])
        self.assert_no_timetable(-1, book, None)

    def test_more_appointments_than_slots(self):
        book = Book(1, [[0], [0]])
        self.assert_no_timetable(1, book, (0, 0))

    def test_sixty(self):
        book = Book(60, [list(range(60))] * 60)
        self.assertIsNone(check_timetable(book, tuple(range(60))))
        self.assert_no_timetable(59, book, (*range(59), 0))
