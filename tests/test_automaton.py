"""1.1 to 1.5: letters, automata and what they read."""

import unittest

from automatics.automaton import Automaton, letter_number, letters, same
from automatics.errors import BadAutomaton, BadWord
from tests.helpers import NO_INTEGERS, parts_of, plain_letters, random_automaton, small_automata, words_up_to

ODD = ([(0, 1), (1, 0)], [1])


class IntSubclass(int):
    pass


class Letters(unittest.TestCase):

    def test_each_base_and_number_of_tracks(self):
        for base in (2, 3, 4):
            for tracks in range(6):
                with self.subTest(base=base, tracks=tracks):
                    found = letters(base, tracks)
                    self.assertIsInstance(found, list)
                    self.assertEqual(found, plain_letters(base, tracks))
                    self.assertEqual(found, sorted(found))
                    self.assertEqual(len(found), base ** tracks)

    def test_no_tracks(self):
        self.assertEqual(letters(2, 0), [()])
        self.assertEqual(letter_number(2, ()), 0)

    def test_numbers(self):
        for base in (2, 3, 4):
            for tracks in range(6):
                numbers = [letter_number(base, letter) for letter in letters(base, tracks)]
                self.assertEqual(numbers, list(range(base ** tracks)))

    def test_new_list_each_time(self):
        letters(2, 1).clear()
        self.assertEqual(letters(2, 1), [(0,), (1,)])


class Creation(unittest.TestCase):

    def test_attributes(self):
        automaton = Automaton(3, 1, [[0, 1, 2], (1, 1, 1), [2, 0, 2]], [2, 0])
        self.assertEqual(parts_of(automaton), (3, 1, ((0, 1, 2), (1, 1, 1), (2, 0, 2)), (0, 2)))
        self.assertEqual(automaton.size, 3)
        self.assertIs(type(automaton.rows), tuple)
        self.assertEqual({type(row) for row in automaton.rows}, {tuple})
        self.assertIs(type(automaton.accepting), tuple)
        self.assertEqual([type(x) for x in (automaton.base, automaton.tracks, automaton.size)], [int] * 3)

    def test_accepting_is_ascending(self):
        rows = [[0, 0]] * 6
        for accepting in ([5, 4, 3, 0], [0, 3, 4, 5], [4, 0, 5, 3]):
            self.assertEqual(Automaton(2, 1, rows, accepting).accepting, (0, 3, 4, 5))
        self.assertEqual(Automaton(2, 1, rows, []).accepting, ())

    def test_arguments_are_copied_and_not_changed(self):
        rows = [[0, 1], [1, 0]]
        accepting = [1, 0]
        automaton = Automaton(2, 1, rows, accepting)
        self.assertEqual((rows, accepting), ([[0, 1], [1, 0]], [1, 0]))
        rows[0][0] = 1
        rows.append([0, 0])
        accepting.clear()
        self.assertEqual(parts_of(automaton), (2, 1, ((0, 1), (1, 0)), (0, 1)))
        self.assertEqual(automaton.size, 2)

    def test_no_tracks(self):
        automaton = Automaton(4, 0, [(1,), (0,)], [0])
        self.assertTrue(automaton.accepts(()))
        self.assertFalse(automaton.accepts(((),)))
        self.assertTrue(automaton.accepts(((), ())))

    def test_all_bases_and_tracks(self):
        for base in (2, 3, 4):
            for tracks in range(6):
                automaton = Automaton(base, tracks, [[0] * base ** tracks], [0])
                self.assertEqual((automaton.base, automaton.tracks, automaton.size), (base, tracks, 1))

    def test_greatest_number_of_states(self):
        self.assertEqual(Automaton(2, 1, [[4999, 0]] * 5000, [4999]).size, 5000)
        with self.assertRaises(BadAutomaton):
            Automaton(2, 1, [[0, 0]] * 5001, [])
        with self.assertRaises(BadAutomaton):
            Automaton(2, 1, [], [])

    def test_wrong_base(self):
        for base in NO_INTEGERS + (0, 1, 5, 2.0, 3 + 0j, float("nan")):
            with self.subTest(base=base), self.assertRaises(BadAutomaton):
                Automaton(base, 1, *ODD)

    def test_wrong_tracks(self):
        for tracks in NO_INTEGERS + (6, 1.0, 100):
            with self.subTest(tracks=tracks), self.assertRaises(BadAutomaton):
                Automaton(2, tracks, *ODD)
        for tracks in (0, 2, 3):
            with self.subTest(tracks=tracks), self.assertRaises(BadAutomaton):
                Automaton(2, tracks, *ODD)

    def test_wrong_row(self):
        for row in NO_INTEGERS + (5, "01", b"\x00\x01", {0: 1, 1: 0}, {0, 1}, (0,), (0, 1, 0), range(2), iter((0, 1))):
            for rows in ([row, (0, 1)], [(0, 1), row]):
                with self.subTest(row=row), self.assertRaises(BadAutomaton):
                    Automaton(2, 1, rows, [])

    def test_wrong_rows(self):
        for rows in (None, 1, True, "ab", b"ab", {}, {0: (0, 1)}, object(), 0.5):
            with self.subTest(rows=rows), self.assertRaises(BadAutomaton):
                Automaton(2, 1, rows, [])

    def test_wrong_state_in_a_row(self):
        for state in NO_INTEGERS + (2, 3, 5000, 0.0, "0"):
            for row in ([state, 0], (0, state)):
                with self.subTest(state=state), self.assertRaises(BadAutomaton):
                    Automaton(2, 1, [(0, 1), row], [])

    def test_wrong_accepting_state(self):
        for state in NO_INTEGERS + (2, 3, 5000, 0.0, "0"):
            for accepting in ([state], [0, state], [state, 1]):
                with self.subTest(state=state), self.assertRaises(BadAutomaton):
                    Automaton(2, 1, [(0, 1), (1, 0)], accepting)

    def test_accepting_state_twice(self):
        for accepting in ([0, 0], [1, 0, 1], [1, 1]):
            with self.subTest(accepting=accepting), self.assertRaises(BadAutomaton):
                Automaton(2, 1, [(0, 1), (1, 0)], accepting)

    def test_wrong_accepting(self):
        for accepting in (None, 1, True, "01", {0: 1}, object(), 0.5):
            with self.subTest(accepting=accepting), self.assertRaises(BadAutomaton):
                Automaton(2, 1, [(0, 1), (1, 0)], accepting)

    def test_own_kinds_of_integers_are_integers(self):
        automaton = Automaton(IntSubclass(2), IntSubclass(1), [(IntSubclass(0), 0)], [IntSubclass(0)])
        self.assertTrue(automaton.accepts(((IntSubclass(1),),)))


class Reading(unittest.TestCase):

    def test_after_is_the_item_of_the_row(self):
        for automaton in small_automata():
            for state in range(automaton.size):
                found = [automaton.after(state, letter) for letter in letters(automaton.base, automaton.tracks)]
                self.assertEqual(tuple(found), automaton.rows[state])

    def test_reach_and_accepts(self):
        for automaton in small_automata():
            for word in words_up_to(automaton.base, automaton.tracks, 2):
                state = 0
                for letter in word:
                    state = automaton.after(state, letter)
                self.assertEqual(automaton.reach(word), state)
                self.assertIs(automaton.accepts(word), state in automaton.accepting)

    def test_empty_word(self):
        self.assertEqual(Automaton(2, 1, *ODD).reach(()), 0)

    def test_long_word(self):
        self.assertTrue(Automaton(2, 1, *ODD).accepts(((1,),) * 30001))

    def test_wrong_state(self):
        automaton = Automaton(2, 1, *ODD)
        for state in NO_INTEGERS + (2, 0.0, "0"):
            with self.subTest(state=state), self.assertRaises(BadAutomaton):
                automaton.after(state, (0,))

    def test_wrong_letter(self):
        automaton = Automaton(3, 2, [[0] * 9], [0])
        wrong = [value for value in NO_INTEGERS] + [
            0, (0,), (0, 0, 0), [0, 0], "00", (0, 3), (3, 0), (0, -1), (True, 0), (0, False), (0, 1.0), (0, "1"),
            (0, None), ((0, 0),), ((0,), (0,)), (0, []), {0, 1}]
        for letter in wrong:
            with self.subTest(letter=letter):
                with self.assertRaises(BadWord):
                    automaton.after(0, letter)
                for word in ((letter,), ((0, 0), letter), (letter, (0, 0))):
                    with self.assertRaises(BadWord):
                        automaton.reach(word)
                    with self.assertRaises(BadWord):
                        automaton.accepts(word)

    def test_wrong_word(self):
        automaton = Automaton(2, 1, *ODD)
        for word in (None, 0, True, "", "0", b"", [], [(0,)], {}, {(0,)}, {(0,): 1}, object(), 0.5, iter(())):
            with self.subTest(word=word):
                with self.assertRaises(BadWord):
                    automaton.reach(word)
                with self.assertRaises(BadWord):
                    automaton.accepts(word)

    def test_letters_without_tracks(self):
        automaton = Automaton(2, 0, [(0,)], [])
        self.assertEqual(automaton.after(0, ()), 0)
        for letter in ((0,), [], None, 0, ""):
            with self.subTest(letter=letter), self.assertRaises(BadWord):
                automaton.after(0, letter)


class Same(unittest.TestCase):

    def test_same(self):
        for automaton in small_automata():
            copied = Automaton(automaton.base, automaton.tracks, list(automaton.rows), list(automaton.accepting))
            self.assertIs(same(automaton, copied), True)

    def test_unlike_base_only(self):
        self.assertIs(same(Automaton(2, 0, [(0,)], [0]), Automaton(3, 0, [(0,)], [0])), False)

    def test_unlike_tracks_only(self):
        # Rows of other widths come with other tracks; the rows are all that can be unlike besides.
        self.assertIs(same(Automaton(2, 2, [(0,) * 4], [0]), Automaton(4, 1, [(0,) * 4], [0])), False)
        self.assertIs(same(Automaton(2, 0, [(0,)], [0]), Automaton(2, 1, [(0, 0)], [0])), False)

    def test_unlike_rows_only(self):
        self.assertIs(same(Automaton(2, 1, [(0, 1), (1, 0)], [1]), Automaton(2, 1, [(0, 1), (1, 1)], [1])), False)
        self.assertIs(same(Automaton(2, 1, [(0, 0)], [0]), Automaton(2, 1, [(0, 0), (0, 0)], [0])), False)

    def test_unlike_accepting_only(self):
        self.assertIs(same(Automaton(2, 1, *ODD), Automaton(2, 1, ODD[0], [0])), False)
        self.assertIs(same(Automaton(2, 1, *ODD), Automaton(2, 1, ODD[0], [0, 1])), False)
        self.assertIs(same(Automaton(2, 1, *ODD), Automaton(2, 1, ODD[0], [])), False)

    def test_same_language_is_not_enough(self):
        self.assertIs(same(random_automaton(1, 2, 1, 1), Automaton(2, 1, [(1, 1), (0, 0)], [])), False)


if __name__ == "__main__":
    unittest.main()
