"""[2] The general rules, and the interface."""

import inspect
import unittest

from reslot import books, errors, moves
from reslot.books import Book, check_timetable
from reslot.errors import NoAppointment, NoBook, NoMove, NoTimetable, TooMany
from tests.helper import raised

ROWS = [[0, 1], [1, 2], [3]]
START = (0, 1, 3)


def calls(book, steps):
    """Every call that returns a list or a tuple, by position."""
    return [lambda: book.allowed(0), lambda: moves.free_slots(book, START), lambda: moves.moves(book, START),
            lambda: moves.moved(book, START, steps), lambda: moves.reached(book, START)]


class Names(unittest.TestCase):
    def test_arguments_by_name(self):
        book = Book(slots=4, allowed=ROWS)
        self.assertTrue(book == Book(4, ROWS))
        self.assertEqual(book.allowed(appointment=1), book.allowed(1))
        self.assertIsNone(check_timetable(book=book, timetable=START))
        self.assertEqual(moves.free_slots(book=book, timetable=START), moves.free_slots(book, START))
        self.assertEqual(moves.moves(book=book, timetable=START), moves.moves(book, START))
        self.assertEqual(moves.moved(book=book, timetable=START, steps=[(1, 2)]), (0, 2, 3))
        self.assertEqual(moves.reached(book=book, timetable=START, most=3), moves.reached(book, START, most=3))

    def test_errors_by_name(self):
        book = Book(4, ROWS)
        self.assertIs(type(raised(Book, slots=0, allowed=[])), NoBook)
        self.assertIs(type(raised(book.allowed, appointment=3)), NoAppointment)
        self.assertIs(type(raised(check_timetable, book=book, timetable=())), NoTimetable)
        self.assertIs(type(raised(moves.moved, book=book, timetable=START, steps=())), NoMove)
        self.assertIs(type(raised(moves.reached, book=book, timetable=START, most=2)), TooMany)

    def test_parameters(self):
        for call, names in ((Book.__init__, ["self", "slots", "allowed"]), (Book.size, ["self"]),
                            (Book.allowed, ["self", "appointment"]), (check_timetable, ["book", "timetable"]),
                            (moves.free_slots, ["book", "timetable"]), (moves.moves, ["book", "timetable"]),
                            (moves.moved, ["book", "timetable", "steps"]),
                            (moves.reached, ["book", "timetable", "most"])):
            self.assertEqual(list(inspect.signature(call).parameters), names)
        most = inspect.signature(moves.reached).parameters["most"]
        self.assertEqual((most.kind, most.default), (inspect.Parameter.KEYWORD_ONLY, 1000))

    def test_defined_where_the_interface_lists_them(self):
        for name in ("size", "allowed", "__len__", "__eq__"):
            self.assertIn(name, vars(Book))
        for module, names in ((books, ("Book", "check_timetable")), (errors, ("SlotError", "NoCosts")),
                              (moves, ("free_slots", "moves", "moved", "reached"))):
            for name in names:
                self.assertEqual(getattr(module, name).__module__, module.__name__)


class Unchanged(unittest.TestCase):
    def test_arguments_are_not_changed(self):
        rows, steps, start = [[0, 1], [1, 2], [3]], [(1, 2), (0, 1)], (0, 1, 3)
        book = Book(4, rows)
        check_timetable(book, start)
        for call in calls(book, steps):
            call()
        raised(moves.moved, book, start, [(0, 1)])
        raised(moves.reached, book, start, most=0)
        self.assertEqual((rows, steps, start), ([[0, 1], [1, 2], [3]], [(1, 2), (0, 1)], (0, 1, 3)))
        self.assertTrue(book == Book(4, [[0, 1], [1, 2], [3]]))

    def test_returned_lists_belong_to_the_caller(self):
        book = Book(4, ROWS)
        for call in calls(book, []):
            first = call()
            if isinstance(first, list):
                kept = list(first)
                first.append("mine")
                first.reverse()
                self.assertIsNot(call(), first)
                self.assertEqual(call(), kept)

    def test_equal_calls_return_equal_results(self):
        before = [call() for call in calls(Book(4, ROWS), [(1, 2)])]
        book = Book(4, ROWS)
        for _ in range(3):
            self.assertEqual([call() for call in calls(book, [(1, 2)])], before)
        self.assertEqual(before, [[0, 1], [2], [(1, 2)], (0, 2, 3), [(0, 1, 3), (0, 2, 3), (1, 2, 3)]])

    def test_later_changes_do_not_reach_earlier_results(self):
        steps = [(1, 2)]
        later = moves.moved(Book(4, ROWS), START, steps)
        steps[0] = (0, 0)
        self.assertEqual(later, (0, 2, 3))

    def test_an_error_changes_nothing(self):
        book = Book(4, ROWS)
        before = [call() for call in calls(book, [(1, 2)])]
        raised(book.allowed, 9)
        raised(check_timetable, book, (9, 9, 9))
        raised(moves.moved, book, START, [(1, 2), (9, 9)])
        raised(moves.reached, book, START, most=1)
        raised(book.__init__, 2, [[5]])
        self.assertEqual([call() for call in calls(book, [(1, 2)])], before)
