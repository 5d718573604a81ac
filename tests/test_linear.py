"""7.5 and 7.7 to 7.9: numbers told by matrices."""

import itertools
import random
import unittest

from automatics.errors import BadLinear, OtherBase, TooMany
from automatics.linear import Linear, added, parting_number, same_values, scaled, summed
from tests.helpers import NO_INTEGERS, digits_up, great_numbers

# x itself, 1 for each number, the number of digits 1 in the digits of x, and the number of its digits.
ITSELF = Linear(2, (0, 1), (((2, 0), (0, 1)), ((2, 0), (1, 1))), (1, 0))
ONES = Linear(2, (1,), (((1,),), ((1,),)), (1,))
DIGIT_SUM = Linear(2, (0, 1), (((1, 0), (0, 1)), ((1, 0), (1, 1))), (1, 0))
NOTHING = Linear(2, (), ((), ()), ())


def plain_value(linear, x):
    """The product, multiplied out item by item."""
    size = range(len(linear.first))
    row = list(linear.first)
    for digit in digits_up(x, linear.base):
        row = [sum(row[one] * linear.matrices[digit][one][other] for one in size) for other in size]
    return sum(row[one] * linear.last[one] for one in size)


def drawn(seed, base, size):
    """A drawn Linear; its first row is (1, 0, .. 0), and the first row of the matrix of 0 too."""
    source = random.Random(seed)
    matrices = [
        [[source.choice((0, 0, 1, -1, 2, 3, -2)) for _ in range(size)] for _ in range(size)] for _ in range(base)]
    if size:
        matrices[0][0] = [1] + [0] * (size - 1)
    first = tuple([1] + [0] * (size - 1)) if size else ()
    last = tuple(source.randrange(-3, 4) for _ in range(size))
    return Linear(base, first, tuple(tuple(map(tuple, matrix)) for matrix in matrices), last)


def all_drawn():
    """Drawn ones of all bases and several sizes."""
    return [drawn(seed, base, seed % 5) for base in (2, 3, 4) for seed in range(10)]


def turned(linear):
    """The same values by other items: the rows are multiplied by a matrix, and the columns by its inverse."""
    size = linear.size()
    # Each item has the one before it added.
    change = [[1 if other in (one, one + 1) else 0 for other in range(size)] for one in range(size)]
    back = [[(-1) ** (other - one) if other >= one else 0 for other in range(size)] for one in range(size)]

    def times(rows, others):
        return [[sum(a * b for a, b in zip(row, column)) for column in zip(*others)] for row in rows]
    matrices = tuple(tuple(map(tuple, times(times(back, matrix), change))) for matrix in linear.matrices)
    first = times([linear.first], change)[0] if size else []
    last = [sum(a * b for a, b in zip(row, linear.last)) for row in back]
    return Linear(linear.base, tuple(first), matrices, tuple(last))


def parts(linear):
    """What tells a Linear."""
    return linear.base, linear.first, linear.matrices, linear.last


class Values(unittest.TestCase):

    def test_attributes(self):
        self.assertEqual(parts(ITSELF), (2, (0, 1), (((2, 0), (0, 1)), ((2, 0), (1, 1))), (1, 0)))
        self.assertEqual(ITSELF.size(), 2)
        self.assertEqual(NOTHING.size(), 0)
        self.assertEqual(parts(NOTHING), (2, (), ((), ()), ()))
        self.assertIs(type(ITSELF.first), tuple)

    def test_known_ones(self):
        for x in list(range(50)) + great_numbers(1):
            self.assertEqual(ITSELF.value(x), x)
            self.assertEqual(ONES.value(x), 1)
            self.assertEqual(DIGIT_SUM.value(x), digits_up(x, 2).count(1))
            self.assertEqual(NOTHING.value(x), 0)

    def test_against_multiplying_out(self):
        for linear in all_drawn():
            values = [plain_value(linear, x) for x in range(100)]
            self.assertEqual([linear.value(x) for x in range(100)], values)
            for count in (0, 1, 2, 3, 4, 5, 17, 100):
                self.assertEqual(linear.values(count), values[:count])
            for x in (10 ** 9, 10 ** 30 + 7):
                self.assertEqual(linear.value(x), plain_value(linear, x))

    def test_zeros_in_front_are_not_read(self):
        # Behind other digits zeros do matter.
        linear = Linear(2, (1, 0), (((1, 0), (0, 5)), ((0, 1), (0, 1))), (1, 7))
        self.assertEqual(linear.values(5), [1, 7, 35, 7, 175])

    def test_negative_and_great_values(self):
        linear = Linear(3, (-1,), (((1,),), ((-2,),), ((10 ** 40,),)), (3,))
        self.assertEqual(linear.values(4), [-3, 6, -3 * 10 ** 40, 6])
        self.assertEqual(linear.value(4), -12)
        self.assertEqual(linear.value(8), -3 * 10 ** 80)

    def test_no_items(self):
        for base in (2, 3, 4):
            linear = Linear(base, (), ((),) * base, ())
            self.assertEqual(linear.values(10), [0] * 10)
            self.assertEqual(linear.value(10 ** 20), 0)

    def test_300_items(self):
        def wide(size, first=1):
            row = (1,) + (0,) * (size - 1)
            matrix = (row,) * size
            return Linear(2, row, (matrix, matrix), (first,) * size)
        linear = wide(300, 4)
        self.assertEqual(linear.size(), 300)
        self.assertEqual(linear.values(5), [4] * 5)
        with self.assertRaises(BadLinear):
            wide(301)

    def test_kinds(self):
        for linear in (ITSELF, NOTHING):
            self.assertIs(type(linear.value(5)), int)
            self.assertIs(type(linear.values(5)), list)
            self.assertIs(type(linear.size()), int)


class Wrong(unittest.TestCase):

    right = (2, (0, 1), (((2, 0), (0, 1)), ((2, 0), (1, 1))), (1, 0))

    def check_wrong(self, at, value):
        arguments = list(self.right)
        arguments[at] = value
        with self.assertRaises(BadLinear):
            Linear(*arguments)

    def test_base(self):
        for value in NO_INTEGERS + (0, 1, 3, 4, 5, (2,)):
            self.check_wrong(0, value)
        self.assertEqual(Linear(*self.right).base, 2)
        # As many matrices as such a base would have.
        for base, count in ((2.0, 2), (True, 1), (1, 1), (5, 5), (0, 0), (False, 0), (6, 6)):
            with self.assertRaises(BadLinear):
                Linear(base, (0, 1), (((2, 0), (0, 1)),) * count, (1, 0))

    def test_rows_and_columns(self):
        for at in (1, 3):
            one, other = self.right[at]
            for value in (
                    [one, other], (one,), (one, other, 0), (), None, 0, "01", (one, None), (one, 1.0), (one, (other,)),
                    (bool(one), bool(other)), (str(one), other), {one: other}, one):
                self.check_wrong(at, value)

    def test_true_and_false(self):
        self.check_wrong(1, (False, True))
        self.check_wrong(1, (0, True))
        self.check_wrong(3, (1, False))
        self.check_wrong(2, (((2, 0), (False, 1)), ((2, 0), (1, 1))))
        self.check_wrong(2, (((2, 0), (0, 1)), ((2, 0), (1, True))))

    def test_matrices(self):
        zero, one = self.right[2]
        for value in (
                [zero, one], (zero,), (zero, one, one), (), None, (zero, None), (list(zero), one), (zero, [(2, 0), (1, 1)]),
                (zero, ([2, 0], (1, 1))), (zero, ((2, 0),)), (zero, ((2, 0), (1, 1), (0, 0))), (zero, ((2, 0), (1, 1, 1))),
                (zero, ((2, 0), (1,))), (zero, ((2, 0), (1, 1.0))), (zero, ((2, 0), (1, "1"))), (zero, ((2, 0), (1, None))),
                (zero, ()), ((), ()), (zero, ((2, 0, 0), (1, 1, 0)))):
            self.check_wrong(2, value)

    def test_zeros_in_front(self):
        self.check_wrong(2, (((2, 0), (1, 1)), ((2, 0), (1, 1))))
        self.check_wrong(2, (((2, 0), (0, 2)), ((2, 0), (1, 1))))
        self.check_wrong(1, (1, 1))
        # Only the row of 1 in the first row counts.
        self.assertEqual(Linear(2, (0, 1), (((9, 9), (0, 1)), ((2, 0), (1, 1))), (1, 0)).size(), 2)

    def test_sizes_of_no_items(self):
        for arguments in ((2, (), ((), (), ()), ()), (2, (), ((),), ()), (2, (), (), ()), (2, (), ((), ()), (1,)),
                          (2, (), (((),), ((),)), ()), (2, (1,), ((), ()), (1,)), (3, (), ((), ()), ())):
            with self.assertRaises(BadLinear):
                Linear(*arguments)


class Reckoned(unittest.TestCase):

    def test_added(self):
        for first, second in itertools.product(all_drawn(), repeat=2):
            if first.base == second.base:
                found = added(first, second)
                self.assertEqual(found.base, first.base)
                values = [one + other for one, other in zip(first.values(40), second.values(40))]
                self.assertEqual(found.values(40), values)
                self.assertLessEqual(found.size(), first.size() + second.size())

    def test_scaled(self):
        for linear in all_drawn():
            for factor in (0, 1, -1, 2, -7, 10 ** 30):
                self.assertEqual(scaled(linear, factor).values(40), [factor * value for value in linear.values(40)])
                self.assertEqual(scaled(linear, factor).base, linear.base)

    def test_summed(self):
        for linear in all_drawn():
            values = linear.values(100)
            found = summed(linear)
            self.assertEqual(found.base, linear.base)
            self.assertEqual(found.values(101), [sum(values[:x]) for x in range(101)])

    def test_summed_twice(self):
        for linear in all_drawn():
            values = linear.values(60)
            sums = [sum(values[:x]) for x in range(61)]
            self.assertEqual(summed(summed(linear)).values(61), [sum(sums[:x]) for x in range(61)])

    def test_great_sums(self):
        for x in (10 ** 9, 10 ** 30 + 1):
            self.assertEqual(summed(ONES).value(x), x)
            self.assertEqual(summed(ITSELF).value(x), x * (x - 1) // 2)
            self.assertEqual(added(ITSELF, scaled(summed(ITSELF), 2)).value(x), x * x)

    def test_other_base(self):
        third = drawn(1, 3, 2)
        for call in (added, same_values, parting_number):
            with self.assertRaises(OtherBase):
                call(ITSELF, third)
            with self.assertRaises(OtherBase):
                call(third, NOTHING)

    def test_number_of_items(self):
        def wide(size, base=2):
            row = (1,) + (0,) * (size - 1)
            return Linear(base, row, ((row,) * size,) * base, (1,) * size)
        self.assertEqual(added(wide(100), wide(200)).values(3), [2, 2, 2])
        self.assertEqual(summed(wide(150)).values(4), [0, 1, 2, 3])
        with self.assertRaises(TooMany):
            added(wide(100), wide(201))
        with self.assertRaises(TooMany):
            summed(wide(151))
        with self.assertRaises(OtherBase):
            added(wide(200), wide(200, 3))
        self.assertEqual(scaled(wide(300), 5).values(2), [5, 5])

    def test_arguments_are_not_changed(self):
        linear = drawn(3, 2, 4)
        before = parts(linear)
        for found in (added(linear, linear), scaled(linear, 1), summed(linear)):
            self.assertIsNot(found, linear)
        linear.values(20)
        same_values(linear, ITSELF)
        self.assertEqual(parts(linear), before)


class Compared(unittest.TestCase):

    def check(self, first, second, most):
        """Compares with the values of many numbers."""
        unlike = [x for x, (one, other) in enumerate(zip(first.values(most), second.values(most))) if one != other]
        expected = unlike[0] if unlike else None
        self.assertEqual(parting_number(first, second), expected)
        self.assertEqual(parting_number(second, first), expected)
        self.assertIs(same_values(first, second), expected is None)
        return expected

    def test_drawn_ones(self):
        for first, second in itertools.product(all_drawn(), repeat=2):
            if first.base == second.base:
                self.check(first, second, 300)

    def test_same_values_by_other_items(self):
        for linear in all_drawn():
            self.check(linear, turned(linear), 100)
            self.check(added(linear, linear), scaled(turned(linear), 2), 100)
            self.check(added(turned(summed(linear)), linear), added(linear, summed(linear)), 100)
            self.check(added(linear, scaled(linear, -1)), Linear(linear.base, (), ((),) * linear.base, ()), 100)

    def test_known_ones(self):
        self.assertTrue(same_values(summed(ONES), ITSELF))
        self.assertTrue(same_values(scaled(ITSELF, 0), NOTHING))
        self.assertEqual(parting_number(ITSELF, DIGIT_SUM), 2)
        self.assertEqual(parting_number(ONES, NOTHING), 0)
        self.assertEqual(parting_number(ITSELF, NOTHING), 1)
        self.assertEqual(parting_number(ITSELF, ONES), 0)

    def test_late_differences(self):
        # 1 for the powers of the base from some one on, or for a great number alone; 0 otherwise.
        for length in (1, 2, 5, 9):
            for base in (2, 3, 4):
                self.check(late(base, length, False), Linear(base, (), ((),) * base, ()), base ** length + 1)
        for base, length in ((2, 40), (3, 99), (4, 299)):
            empty = Linear(base, (), ((),) * base, ())
            self.assertEqual(parting_number(late(base, length - 1, False), empty), base ** (length - 1))
            self.assertEqual(parting_number(late(base, length - 1, True), empty), base ** length - 1)
            self.assertEqual(
                parting_number(late(base, length - 1, True), late(base, length - 1, False)),
                base ** (length - 1) if length > 1 else None)

    def test_differences_of_digits_more(self):
        for linear in all_drawn():
            if linear.size():
                changed = Linear(linear.base, linear.first, linear.matrices, (linear.last[0] + 1,) + linear.last[1:])
                self.check(linear, changed, 200)

    def test_rows_with_great_numbers(self):
        # Rows are compared exactly, not by any rest.
        for prime in (2 ** 31 - 1, 2 ** 61 - 1, 10 ** 9 + 7):
            linear = Linear(2, (1, 0), (((1, 0), (0, 1)), ((1, prime), (0, 1))), (0, 1))
            self.assertEqual(parting_number(linear, NOTHING), 1)
            self.assertTrue(same_values(linear, scaled(DIGIT_SUM, prime)))
            self.assertFalse(same_values(linear, scaled(DIGIT_SUM, prime + 1)))


def late(base, length, last):
    """1 for the number of a 1 and so many zeros, or of so many and one more of the greatest digit; 0 otherwise."""
    size = length + 2
    begin, go_on = (base - 1, base - 1) if last else (1, 0)
    matrices = []
    for digit in range(base):
        rows = [[0] * size for _ in range(size)]
        if digit == 0:
            rows[0][0] = 1
        if digit == begin:
            rows[0][1] = 1
        if digit == go_on:
            for at in range(1, size - 1):
                rows[at][at + 1] = 1
        matrices.append(tuple(map(tuple, rows)))
    return Linear(base, (1,) + (0,) * (size - 1), tuple(matrices), (0,) * (size - 1) + (1,))


if __name__ == "__main__":
    unittest.main()
