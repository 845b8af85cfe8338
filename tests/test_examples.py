"""The blocks of the document's section "Examples"."""

import unittest

from reslot.books import Book, check_timetable
from reslot.errors import NoBook, NoMove, NoTimetable
from reslot.moves import moved, moves, reached


class Examples(unittest.TestCase):
    def test_book_with_an_item_in_another_order(self):
        with self.assertRaises(NoBook) as caught:
            Book(3, [[0, 2], [2, 1]])
        self.assertEqual(caught.exception.index, 1)

    def test_allowed(self):
        self.assertEqual(Book(3, [[0, 2], [1]]).allowed(0), [0, 2])

    def test_slot_that_occurs_twice(self):
        book = Book(3, [[0, 2], [1, 2]])
        with self.assertRaises(NoTimetable) as caught:
            check_timetable(book, (2, 2))
        self.assertEqual(caught.exception.index, 1)

    def test_moves(self):
        book = Book(3, [[0, 2], [1, 2]])
        self.assertEqual(moves(book, (0, 1)), [(0, 2), (1, 2)])

    def test_moved_to_an_occupied_slot(self):
        book = Book(3, [[0, 2], [1, 2]])
        with self.assertRaises(NoMove) as caught:
            moved(book, (0, 1), [(0, 2), (1, 2)])
        self.assertEqual(caught.exception.index, 1)

    def test_reached(self):
        book = Book(3, [[0, 2], [1, 2]])
        self.assertEqual(reached(book, (0, 1)), [(0, 1), (0, 2), (2, 1)])
