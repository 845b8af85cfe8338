"""[2] The general rules, and the interface."""

import copy
import inspect
import unittest
from itertools import permutations

from reslot import books, costs, errors, moves, opening, options, plans, releasing, wishes
from reslot.books import Book, check_timetable
from reslot.errors import (Frozen, NoAppointment, NoBook, NoCertificate, NoCosts, NoMove, NoSlot, NotAllowed,
                           NoTimetable, NoWish, SlotError, TooMany)
from tests.helper import raised

ROWS = [[0, 1], [1, 2], [3]]
START = (0, 1, 3)
FULL = [[0, 1], [0, 1], [1, 2], [3]]
FULL_START = (0, 1, 2, 3)
WISHES = {0: 1, 2: 3}
COSTS = [[5, 1], [2, 4], [-3]]
CHEAPEST = (2, (1, 2, 3), [0, 3, 0, 0])


def given():
    """(function, its arguments by name in the order of the interface) for every function, with a result."""
    book = {"book": Book(4, ROWS), "timetable": START}
    pair = {"book": Book(4, ROWS), "one": START, "other": (1, 2, 3)}
    return [(Book, {"slots": 4, "allowed": copy.deepcopy(ROWS)}), (Book(4, ROWS).allowed, {"appointment": 1}),
            (check_timetable, book), (moves.free_slots, book), (moves.moves, book),
            (moves.moved, {**book, "steps": [(1, 2), (0, 1)]}), (moves.reached, {**book, "most": 3}),
            (opening.open_slots, book), (opening.frozen, book), (opening.check_tight, {**book, "slots": (3,)}),
            (opening.vacated, {**book, "slot": 0}), (plans.least, pair), (plans.plan, pair),
            (plans.check_plan, {**pair, "answer": ("plan", [(1, 2), (0, 1)])}),
            (options.options, {**book, "appointment": 0}), (options.bring, {**book, "appointment": 0, "slot": 1}),
            (options.insert, {**book, "allowed": [0, 3]}),
            (options.check_insert, {**book, "allowed": [0, 3], "answer": ("placed", [(1, 2), (0, 1)], 0)}),
            *given_wishes(book)]


def given_wishes(book):
    """The same for the functions with wishes, costs and cancellations."""
    return [(wishes.granted, {**book, "wishes": dict(WISHES)}),
            (wishes.check_granted, {**book, "wishes": dict(WISHES), "answer": ("granted", (1, 2, 3))}),
            (costs.cheapest, {**book, "costs": copy.deepcopy(COSTS)}),
            (costs.check_cheapest, {**book, "costs": copy.deepcopy(COSTS), "answer": copy.deepcopy(CHEAPEST)}),
            (costs.most_granted, {**book, "wishes": {0: 1, 1: 2, 2: 0}}), (releasing.tight_sets, book),
            (releasing.cancelled, {**book, "appointments": (2, 0)}), (releasing.fewest_cancelled, book),
            (releasing.check_cancelled, {**book, "answer": ((2,), [(3,)])})]


def given_full():
    """The same for a book in which nothing can move."""
    book = {"book": Book(4, FULL), "timetable": FULL_START}
    pair = {"book": Book(4, FULL), "one": FULL_START, "other": (1, 0, 2, 3)}
    return [(opening.frozen, book), (opening.check_tight, {**book, "slots": (1, 0)}), (plans.plan, pair),
            (plans.check_plan, {**pair, "answer": ("frozen", 1, (1, 0))}), (options.insert, {**book, "allowed": [0]}),
            (options.check_insert, {**book, "allowed": [0], "answer": ("full", (1, 0))}),
            (wishes.granted, {**book, "wishes": {0: 1}}),
            (wishes.check_granted, {**book, "wishes": {0: 1, 3: 3}, "answer": ("short", (3, 0), (3,))}),
            (costs.cheapest, {**book, "costs": [[1, 2], [3, 4], [5, 6], [7]]}),
            (costs.most_granted, {**book, "wishes": {0: 1, 3: 3}}), (releasing.tight_sets, book),
            (releasing.cancelled, {**book, "appointments": (1, 3)}), (releasing.fewest_cancelled, book),
            (releasing.check_cancelled, {**book, "answer": ((3, 1), [(3,), (1, 0)])})]


def given_wrong():
    """(function, arguments, error, field, value): one call for each error of each function."""
    book = {"book": Book(4, ROWS), "timetable": START}
    full = {"book": Book(4, FULL), "timetable": FULL_START}
    pair = {"book": Book(4, ROWS), "one": START, "other": (1, 2, 3)}
    wrong = [(Book, {"slots": 0, "allowed": []}, NoBook, "index", -1),
             (book["book"].allowed, {"appointment": 3}, NoAppointment, "appointment", 3),
             (moves.moved, {**book, "steps": [(1, 2), (9, 9)]}, NoMove, "index", 1),
             (moves.reached, {**book, "most": 2}, TooMany, "most", 2),
             (opening.check_tight, {**book, "slots": (3, 0)}, NoCertificate, "index", 3),
             (opening.vacated, {**book, "slot": 4}, NoSlot, "slot", 4),
             (opening.vacated, {**book, "slot": 3}, Frozen, "slots", (3,)),
             (plans.check_plan, {**pair, "answer": ("plan", [(1, 2)])}, NoCertificate, "index", 1),
             (options.options, {**book, "appointment": 3}, NoAppointment, "appointment", 3),
             (options.bring, {**book, "appointment": 3, "slot": 0}, NoAppointment, "appointment", 3),
             (options.bring, {**book, "appointment": 0, "slot": 4}, NoSlot, "slot", 4),
             (options.bring, {**book, "appointment": 0, "slot": 2}, NotAllowed, "slot", 2),
             (options.bring, {**full, "appointment": 0, "slot": 1}, Frozen, "slots", FULL_START),
             (options.insert, {**book, "allowed": [1, 0]}, NoBook, "index", 3),
             (options.check_insert, {**book, "allowed": [], "answer": None}, NoBook, "index", 3),
             (options.check_insert, {**book, "allowed": [0], "answer": None}, NoCertificate, "index", -1),
             (wishes.granted, {**book, "wishes": {0: 1, 3: 0}}, NoWish, "key", 3),
             (wishes.check_granted, {**book, "wishes": [], "answer": None}, NoWish, "key", None),
             (wishes.check_granted, {**book, "wishes": {}, "answer": ("short", (2,), (3,))}, NoCertificate, "index", 2),
             (costs.cheapest, {**book, "costs": [[1, 2], [3], [5]]}, NoCosts, "index", 1),
             (costs.check_cheapest, {**book, "costs": [], "answer": None}, NoCosts, "index", -1),
             (costs.check_cheapest, {**book, "costs": COSTS, "answer": (7, START, [0] * 4)}, NoCertificate, "index", 2),
             (costs.most_granted, {**book, "wishes": {0: 4}}, NoWish, "key", 0),
             (releasing.cancelled, {**book, "appointments": (2, 1, 2)}, NoAppointment, "appointment", 2),
             (releasing.check_cancelled, {**full, "answer": ((0, 3), [(0, 1, 2)])}, NoCertificate, "index", 4)]
    for call, arguments in given():
        for name in ("timetable", "one", "other"):
            if name in arguments:
                wrong.append((call, {**arguments, name: (0, 1, 2)}, NoTimetable, "index", 2))
    return wrong


def shown(call, result):
    """The part of a result that the document settles."""
    if call == costs.cheapest:
        return result[:2]
    return (len(result[0]), result[1]) if call == releasing.fewest_cancelled else result


def positional(call, arguments):
    """The call with its arguments by position, as far as the interface has them so."""
    more = {"most": arguments["most"]} if "most" in arguments else {}
    return call(*[value for name, value in arguments.items() if name not in more], **more)


class Names(unittest.TestCase):
    def test_arguments_by_name_in_any_order(self):
        for call, arguments in given() + given_full():
            expected = positional(call, arguments)
            for order in permutations(arguments):
                with self.subTest(call=call, order=order):
                    self.assertEqual(call(**{name: arguments[name] for name in order}), expected)

    def test_errors_by_name_and_by_position(self):
        for call, arguments, kind, field, value in given_wrong():
            with self.subTest(call=call, kind=kind):
                for error in (raised(positional, call, arguments), raised(call, **arguments),
                              raised(call, **{name: arguments[name] for name in list(arguments)[::-1]})):
                    self.assertIs(type(error), kind)
                    self.assertIsInstance(error, SlotError)
                    self.assertEqual(getattr(error, field), value)

    def test_parameters(self):
        for call, arguments in given():
            self.assertEqual(list(inspect.signature(call).parameters), list(arguments))
        self.assertEqual(list(inspect.signature(Book.size).parameters), ["self"])
        most = inspect.signature(moves.reached).parameters["most"]
        self.assertEqual((most.kind, most.default), (inspect.Parameter.KEYWORD_ONLY, 1000))

    def test_defined_where_the_interface_lists_them(self):
        for name in ("size", "allowed", "__len__", "__eq__"):
            self.assertIn(name, vars(Book))
        for module, names in ((books, ("Book", "check_timetable")), (errors, ("SlotError", "NoCosts")),
                              (moves, ("free_slots", "moves", "moved", "reached")),
                              (opening, ("open_slots", "frozen", "check_tight", "vacated")),
                              (plans, ("least", "plan", "check_plan")),
                              (options, ("options", "bring", "insert", "check_insert")),
                              (wishes, ("granted", "check_granted")),
                              (costs, ("cheapest", "check_cheapest", "most_granted")),
                              (releasing, ("tight_sets", "cancelled", "fewest_cancelled", "check_cancelled"))):
            for name in names:
                self.assertEqual(getattr(module, name).__module__, module.__name__)


class Results(unittest.TestCase):
    def test_results(self):
        self.assertEqual([shown(call, call(**arguments)) for call, arguments in given()],
                         [Book(4, ROWS), [1, 2], None, [2], [(1, 2)], (1, 2, 3),
                          [(0, 1, 3), (0, 2, 3), (1, 2, 3)], [0, 1, 2], (2,), None, [(1, 2), (0, 1)], 2,
                          ("plan", [(1, 2), (0, 1)]), None, [0, 1], [(1, 2), (0, 1)],
                          ("placed", [(1, 2), (0, 1)], 0), None, ("granted", (1, 2, 3)), None, (2, (1, 2, 3)), None,
                          (2, (1, 2, 3)), [(3,)], (Book(4, [[1, 2]]), (1,)), (1, [(3,)]), None])
        self.assertEqual([shown(call, call(**arguments)) for call, arguments in given_full()],
                         [(0, 1, 2, 3), None, ("frozen", 0, (0, 1, 2, 3)), None, ("full", (0, 1, 2, 3)), None,
                          ("short", (0,), ()), None, (18, (0, 1, 2, 3)), (1, (0, 1, 2, 3)), [(0, 1), (3,)],
                          (Book(4, [[0, 1], [1, 2]]), (0, 2)), (2, [(0, 1), (3,)]), None])

    def test_again(self):
        before = [call(**arguments) for call, arguments in given() + given_full()]
        for _ in range(2):
            # The books are made anew, then used again.
            calls = given() + given_full()
            for _ in range(2):
                self.assertEqual([call(**arguments) for call, arguments in calls], before)

    def test_errors_again(self):
        for _ in range(2):
            for call, arguments, kind, field, value in given_wrong():
                for _ in range(2):
                    error = raised(call, **arguments)
                    self.assertEqual((type(error), getattr(error, field)), (kind, value))


class Unchanged(unittest.TestCase):
    def test_arguments_are_not_changed(self):
        for call, arguments in given() + given_full():
            kept = copy.deepcopy(arguments)
            call(**arguments)
            self.assertEqual(arguments, kept)

    def test_an_error_changes_nothing(self):
        for call, arguments, kind, field, value in given_wrong():
            kept = copy.deepcopy(arguments)
            raised(call, **arguments)
            self.assertEqual(arguments, kept)

    def test_an_error_in_a_book_changes_nothing(self):
        book = Book(4, ROWS)
        raised(book.__init__, 2, [[5]])
        raised(book.allowed, 9)
        self.assertTrue(book == Book(4, ROWS))
        self.assertEqual(moves.reached(book, START), moves.reached(Book(4, ROWS), START))

    def test_returned_lists_belong_to_the_caller(self):
        for call, arguments in given() + given_full():
            first = call(**arguments)
            kept = copy.deepcopy(first)
            for item in (first, *(first if isinstance(first, tuple) else ())):
                if isinstance(item, list):
                    item.append("mine")
                    item.reverse()
            self.assertEqual(call(**arguments), kept)

    def test_empty_lists_belong_to_the_caller(self):
        book = Book(4, ROWS)
        for call in (lambda: opening.vacated(book, START, 2), lambda: options.bring(book, START, 0, 0),
                     lambda: plans.plan(book, START, START)[1], lambda: options.insert(book, START, [2])[1]):
            call().append("mine")
            self.assertEqual(call(), [])

    def test_later_changes_do_not_reach_earlier_results(self):
        steps, allowed, rows = [(1, 2)], [0, 3], copy.deepcopy(ROWS)
        book = Book(4, rows)
        later, placed = moves.moved(book, START, steps), options.insert(book, START, allowed)
        steps[0] = (0, 0)
        allowed.clear()
        rows[0].clear()
        self.assertEqual((later, placed), ((0, 2, 3), ("placed", [(1, 2), (0, 1)], 0)))
        self.assertEqual(options.options(book, START, 0), [0, 1])
        self.assertEqual(opening.open_slots(book, START), [0, 1, 2])
