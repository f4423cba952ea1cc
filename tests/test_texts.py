import unittest
from itertools import combinations, permutations, product
from random import Random

from archrow.arcs import is_set, row_of
from archrow.counted import count_sets, set_at
from archrow.errors import NoRow, NoSet, NoText
from archrow.kept import most_ties
from archrow.texts import brackets, read_brackets, read_row, show_row
from plainly import all_sets, blocks_row, brackets_plainly, full_row, large_row, small_rows
from refusing import FAR, RefusalTest

OTHER_SIGNS = [chr(code) for code in range(32, 127) if chr(code) not in "().%"] + ["\n"]


class BracketsTest(RefusalTest):
    def test_by_hand(self):
        self.assertEqual(brackets(6, [(0, 5), (1, 2), (3, 4)]), "(()())")
        self.assertEqual(brackets(6, [(1, 4)]), ".(..).")
        self.assertEqual(brackets(5, [(0, 1), (3, 4)]), "().()")
        self.assertEqual(brackets(2, [(0, 1)]), "()")
        self.assertEqual(brackets(40, [(k, 39 - k) for k in range(20)]), "(" * 20 + ")" * 20)

    def test_without_ties(self):
        for many in (0, 1, 2, 40, 80, 999):
            self.assertEqual(brackets(many, []), "." * many)

    def test_every_set_of_up_to_seven_points(self):
        for many in range(8):
            for ties in all_sets(full_row(many)):
                self.assertEqual(brackets(many, ties), brackets_plainly(many, ties))

    def test_many_points(self):
        self.assertEqual(brackets(999, [(0, 998), (500, 501)]), "(" + "." * 499 + "()" + "." * 496 + ")")
        self.assertEqual(brackets(800, [(2 * k, 2 * k + 1) for k in range(400)]), "()" * 400)

    def test_kind(self):
        for many, ties in [(0, []), (2, [(0, 1)])]:
            self.assertIs(type(brackets(many, ties)), str)

    def test_many_below_0(self):
        for many in (-1, -2, -40, -FAR):
            for ties in [[], [(0, 1)], [(1, 0)], [(0, 0)], [(-1, 5)], [(0, 2), (1, 3)], [(FAR, -FAR)]]:
                self.refuses(NoRow, brackets, many, ties)

    def test_no_set_of_any_row_by_hand(self):
        for wrong in [(0, 5), (-1, 2), (5, 6), (-2, -1), (0, FAR), (-FAR, 0), (FAR, -FAR)]:
            self.refuses(NoSet, brackets, 5, [wrong])
            self.refuses(NoSet, brackets, 5, [wrong, (3, 4)])
            self.refuses(NoSet, brackets, 5, [(0, 1), wrong])
        self.refuses(NoSet, brackets, 5, [(2, 2)])
        self.refuses(NoSet, brackets, 5, [(1, 0)])
        self.refuses(NoSet, brackets, 5, [(0, 2), (1, 3)])
        self.refuses(NoSet, brackets, 5, [(0, 2), (2, 3)])
        self.refuses(NoSet, brackets, 5, [(0, 2), (0, 3)])
        self.refuses(NoSet, brackets, 5, [(0, 4), (1, 4)])
        self.refuses(NoSet, brackets, 5, [(0, 1), (0, 1)])
        self.refuses(NoSet, brackets, 5, [(2, 3), (0, 1)])
        self.refuses(NoSet, brackets, 5, [(1, 2), (0, 3)])
        self.refuses(NoSet, brackets, 0, [(0, 1)])
        self.refuses(NoSet, brackets, 1, [(0, 1)])
        self.refuses(NoSet, brackets, 5, [(0, 1)] * 400)

    def test_no_set_of_any_row(self):
        tuples = list(product(range(-1, 5), repeat=2))
        sets = all_sets(full_row(4))
        for length in range(3):
            for ties in product(tuples, repeat=length):
                if list(ties) not in sets:
                    self.refuses(NoSet, brackets, 4, list(ties))
        for ties in permutations([(0, 7), (1, 2), (3, 6), (4, 5)]):
            if list(ties) != sorted(ties):
                self.refuses(NoSet, brackets, 8, list(ties))


class ReadBracketsTest(RefusalTest):
    def test_by_hand(self):
        self.assertEqual(read_brackets("(()())"), (6, [(0, 5), (1, 2), (3, 4)]))
        self.assertEqual(read_brackets(".(..)."), (6, [(1, 4)]))
        self.assertEqual(read_brackets("."), (1, []))
        self.assertEqual(read_brackets("()"), (2, [(0, 1)]))

    def test_no_points(self):
        self.assertEqual(read_brackets(""), (0, []))

    def test_every_text_of_up_to_seven_signs(self):
        for length in range(8):
            texts = {brackets_plainly(length, ties): ties for ties in all_sets(full_row(length))}
            for signs in product("().", repeat=length):
                text = "".join(signs)
                if text in texts:
                    self.assertEqual(read_brackets(text), (length, texts[text]))
                else:
                    self.refuses(NoText, read_brackets, text)

    def test_there_and_back(self):
        for row in list(small_rows()):
            for ties in all_sets(row):
                self.assertEqual(read_brackets(brackets(row[0], ties)), (row[0], ties))
        for row in [large_row(), blocks_row(), (40, []), full_row(40)]:
            for ties in [most_ties(row)[1], set_at(row, count_sets(row) // 2), set_at(row, count_sets(row) // 3)]:
                self.assertEqual(read_brackets(brackets(40, ties)), (40, ties))

    def test_long_texts(self):
        self.assertEqual(read_brackets("." * 2000), (2000, []))
        self.assertEqual(read_brackets("()" * 1000), (2000, [(2 * k, 2 * k + 1) for k in range(1000)]))
        nest = (2000, [(k, 1999 - k) for k in range(1000)])
        self.assertEqual(read_brackets("(" * 1000 + ")" * 1000), nest)
        self.refuses(NoText, read_brackets, "(" * 2000)
        self.refuses(NoText, read_brackets, ")" * 2000)
        self.refuses(NoText, read_brackets, "(" * 1000 + ")" * 999 + ".")

    def test_kinds(self):
        for text in ["", "..", "(())"]:
            told = read_brackets(text)
            self.assertEqual([type(told), type(told[0]), type(told[1])], [tuple, int, list])
            self.assertEqual([type(tie) for tie in told[1]], [tuple] * len(told[1]))

    def test_other_signs(self):
        for sign in OTHER_SIGNS:
            for text in [sign, f"(){sign}", f"{sign}()", f"({sign})", f".{sign}.", f"){sign}", sign * 2000]:
                self.refuses(NoText, read_brackets, text)


class ShowRowTest(unittest.TestCase):
    def test_by_hand(self):
        self.assertEqual(show_row((3, [])), "3:")
        self.assertEqual(show_row((0, [])), "0:")
        self.assertEqual(show_row((2, [(0, 1)])), "2: 0-1")
        self.assertEqual(show_row((12, [(0, 1), (0, 11), (2, 10), (10, 11)])), "12: 0-1 0-11 2-10 10-11")

    def test_rows_of_more_than_forty_points(self):
        self.assertEqual(show_row((999, [])), "999:")
        self.assertEqual(show_row((999, [(0, 998), (99, 100)])), "999: 0-998 99-100")

    def test_kind(self):
        self.assertIs(type(show_row((0, []))), str)
        self.assertIs(type(show_row((2, [(0, 1)]))), str)


class ReadRowTest(RefusalTest):
    def test_by_hand(self):
        self.assertEqual(read_row("3:"), (3, []))
        self.assertEqual(read_row("0:"), (0, []))
        self.assertEqual(read_row("2: 0-1"), (2, [(0, 1)]))
        self.assertEqual(read_row("12: 0-1 0-11 2-10 10-11"), (12, [(0, 1), (0, 11), (2, 10), (10, 11)]))

    def test_there_and_back(self):
        for row in list(small_rows()) + [large_row(), blocks_row(), (40, [])]:
            self.assertEqual(read_row(show_row(row)), row)
        for text in ["0:", "7:", "3: 0-1 0-2 1-2", "999: 0-1 0-998 997-998"]:
            self.assertEqual(show_row(read_row(text)), text)

    def test_rows_of_more_than_forty_points(self):
        self.assertEqual(read_row("999:"), (999, []))
        self.assertEqual(read_row("100: 98-99"), (100, [(98, 99)]))
        pairs = Random(5).sample(list(combinations(range(999), 2)), 240)
        row = (999, sorted(pairs))
        self.assertEqual(read_row(show_row(row)), row)

    def test_sorted_by_numbers_not_by_figures(self):
        self.assertEqual(read_row("12: 0-2 0-11 2-3 10-11"), (12, [(0, 2), (0, 11), (2, 3), (10, 11)]))
        self.refuses(NoText, read_row, "12: 0-11 0-2")
        self.refuses(NoText, read_row, "12: 10-11 2-3")

    def test_the_greater_ahead(self):
        for text in ["3: 1-0", "3: 0-1 2-1", "3: 2-0 0-1", "0: 1-0", "3: 9-8", "3: 5-1"]:
            self.refuses(NoText, read_row, text)

    def test_not_sorted_or_twice(self):
        for text in ["3: 0-2 0-1", "3: 1-2 0-1", "3: 0-1 0-1", "3: 0-1 0-2 0-1", "3: 0-1 1-2 1-2", "4: 0-1 2-3 1-2"]:
            self.refuses(NoText, read_row, text)

    def test_figures(self):
        for text in [
            "03:", "00:", "003:", "1000:", "0003:", "-1:", "+3:", "3.0:", "3_0:", "a:", ":", "3 :", " 3:",
            "3: 00-1", "3: 0-01", "3: 0-1000", "3: 1000-1001", "3: 0000-1", "3: +0-1", "3: 0-+1", "3: -0-1",
            "3: 0--1", "3: 0-1-2", "3: -", "3: 0-", "3: -1", "3: 0", "3: 0-x", "3: x-1", "3: 0_1-2", "3: 0.0-1",
            "3: 0:1", "3: 0-1,1-2", "3: 0-1;", "\u0663:", "3: 0-\u0661", "\u00b3:", "3: 0-\u00b2",
        ]:
            self.refuses(NoText, read_row, text)

    def test_blanks_too_many_or_too_few(self):
        for text in [
            "3: ", "3:  ", " 3:", "3 :", "3:0-1", "3:  0-1", "3: 0-1 ", "3: 0-1  ", "3: 0-1  1-2", "3: 0-11-2",
            "3: 0 -1", "3: 0- 1", "3: 0 - 1", " ", "", "3", "3 0-1", "3: 0-1\n", "3:\n", "\n3:", "3:\n0-1",
            "3: 0-1\n1-2", "3:\t0-1", "3:: 0-1", "3: 3: 0-1", "3: 0-1:", "3:\n 0-1", "3: \n0-1", "3: 0-1 \n",
        ]:
            self.refuses(NoText, read_row, text)

    def test_other_signs(self):
        for sign in [sign for sign in OTHER_SIGNS if not sign.isdigit()] + list("()."):
            for text in [sign, f"3:{sign}", f"{sign}3:", f"3{sign}:", f"3: 0-1{sign}", f"3: {sign}0-1"]:
                self.refuses(NoText, read_row, text)
            self.refuses(NoText, read_row, f"3: 0{sign}-1")
            if sign != "-":
                self.refuses(NoText, read_row, f"3: 0{sign}1")
            if sign != " ":
                self.refuses(NoText, read_row, f"3: 0-1{sign}1-2")

    def test_a_point_is_none(self):
        for text in ["3: 0-3", "3: 3-4", "3: 0-1 1-999", "0: 0-1", "1: 0-1", "3: 0-1 0-2 500-600", "998: 0-998"]:
            self.refuses(NoRow, read_row, text)

    def test_both_are_one(self):
        for text in ["3: 0-0", "3: 2-2", "3: 0-1 1-1 1-2", "3: 0-0 0-1", "3: 5-5", "0: 0-0"]:
            self.refuses(NoRow, read_row, text)

    def test_no_text_goes_ahead_of_no_row(self):
        for text in [
            "3: 0-3 0-1", "3: 3-0", "3: 0-5 0-5", "3: 1-1 1-1", "3: 1-1 0-1", "3: 1-1 0-0", "3: 0-3 ", "3: 0-0  1-2",
            "3: 1-1 2-1", "0: 0-1 x", "3: 0-9 1-1000", "03: 0-9", "3: 1-1\n", "0:0-0",
        ]:
            self.refuses(NoText, read_row, text)

    def test_long_texts(self):
        for text in ["3:" + " " * 1998, "0" * 2000, "3" * 1999 + ":", "-" * 2000, ": " * 1000, "3: " + "0-1 " * 499]:
            self.refuses(NoText, read_row, text)

    def test_kinds(self):
        for text in ["0:", "3: 0-1 1-2"]:
            told = read_row(text)
            self.assertEqual([type(told), type(told[0]), type(told[1])], [tuple, int, list])
            self.assertEqual([type(tie) for tie in told[1]], [tuple] * len(told[1]))

    def test_every_row_of_three_points_and_every_text_near_it(self):
        pairs = [f"{a}-{b}" for a in range(4) for b in range(4)]
        for length in range(4):
            for chosen in product(pairs, repeat=length):
                ties = [(int(pair[0]), int(pair[2])) for pair in chosen]
                text = "".join(["3:"] + [f" {pair}" for pair in chosen])
                if any(a > b for a, b in ties) or any(one >= two for one, two in zip(ties, ties[1:])):
                    self.refuses(NoText, read_row, text)
                elif any(a == b or b > 2 for a, b in ties):
                    self.refuses(NoRow, read_row, text)
                else:
                    self.assertEqual(read_row(text), (3, ties))


class WholePromiseTest(unittest.TestCase):
    def test_brackets_and_sets_lead_to_one_another(self):
        for many in range(8):
            row = full_row(many)
            texts = [brackets(many, ties) for ties in all_sets(row)]
            self.assertEqual(len(set(texts)), len(texts))
            for text in texts:
                self.assertEqual(brackets(*read_brackets(text)), text)
                self.assertIs(is_set(row, read_brackets(text)[1]), True)

    def test_a_row_read_is_a_row(self):
        row = read_row("6: 0-5 1-2 1-3 2-4 3-4")
        self.assertEqual(row, row_of(6, row[1][::-1]))
        self.assertEqual(brackets(row[0], most_ties(row)[1]), "(()())")


if __name__ == "__main__":
    unittest.main()
