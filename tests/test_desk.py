import unittest
from random import Random

from archrow.counted import count_sets, set_at, set_number
from archrow.desk import Desk
from archrow.errors import ArchError, NoForm, NoneYet, NoNumber, NoRow, NoSet, NoText, NoTie
from archrow.kept import most_ties
from archrow.texts import show_row
from plainly import (
    a_row, all_sets, best_sets, blocks_row, brackets_plainly, clash, first_best, full_row, large_row, most_and_count,
    sets_in_order, small_rows,
)
from refusing import RefusalTest

TEXT = "6: 0-5 1-2 1-3 2-4 3-4"
ROW = (6, [(0, 5), (1, 2), (1, 3), (2, 4), (3, 4)])
ALONE = ["most", "sets", "kept", "whole", "still"]
FIGURES_60 = "9" * 60


def desk_with(row, kept=()):
    """A desk that was told a row and keeps some ties."""
    desk = Desk()
    desk.say(f"row {show_row(row)}")
    for a, b in kept:
        desk.say(f"keep {a}-{b}")
    return desk


def state_of(desk):
    """All that a desk tells of what it holds."""
    return [desk.say(word) for word in ALONE]


class DeskTest(RefusalTest):
    def told(self, desk, said):
        """What a desk answers to each of some rows."""
        answers = []
        for row in said:
            answer = desk.say(row)
            self.assertIs(type(answer), str, row)
            answers.append(answer)
        return answers

    def refuses_and_stays(self, wrong, desk, row):
        """A refusal by a desk with a row, which changes nothing."""
        before = state_of(desk)
        self.refuses(wrong, desk.say, row)
        self.assertEqual(state_of(desk), before, row)


class RowTest(DeskTest):
    def test_by_hand(self):
        self.assertEqual(Desk().say(f"row {TEXT}"), "points 6")
        self.assertEqual(Desk().say("row 0:"), "points 0")
        self.assertEqual(Desk().say("row 3:"), "points 3")
        self.assertEqual(Desk().say("row 2: 0-1"), "points 2")

    def test_rows_of_more_than_forty_points_are_read(self):
        desk = Desk()
        self.assertEqual(desk.say("row 999: 0-998 500-501"), "points 999")
        self.assertEqual(desk.say("keep 0-998"), "kept 1")
        self.assertEqual(desk.say("kept"), "(" + "." * 997 + ")")

    def test_told_anew(self):
        desk = Desk()
        self.assertEqual(self.told(desk, ["row 2: 0-1", "most", "row 4:", "most", "kept"]), [
            "points 2", "1 0-1", "points 4", "0", "...."])

    def test_a_row_told_anew_keeps_nothing(self):
        desk = desk_with(ROW, [(0, 5), (1, 2)])
        self.assertEqual(desk.say("kept"), "(()..)")
        self.assertEqual(desk.say(f"row {TEXT}"), "points 6")
        self.assertEqual(desk.say("kept"), "......")
        self.assertEqual(desk.say("still"), "3")
        self.refuses_and_stays(NoTie, desk, "drop 0-5")
        self.assertEqual(desk.say("keep 0-5"), "kept 1")

    def test_no_text(self):
        for text in [
            "", " ", "3", "3: ", "3: 1-0", "3: 0-1 0-1", "3: 1-2 0-1", "03:", "1000:", "3:\n", "x", "row 3:", "()",
        ]:
            self.refuses(NoText, Desk().say, f"row {text}")
            self.refuses_and_stays(NoText, desk_with(ROW, [(0, 5)]), f"row {text}")
        self.refuses(NoText, Desk().say, "row  3:")
        self.refuses(NoText, Desk().say, "row 3: ")

    def test_no_row(self):
        for text in ["3: 0-3", "3: 1-1", "0: 0-1", "3: 0-1 5-6"]:
            self.refuses(NoRow, Desk().say, f"row {text}")
            self.refuses_and_stays(NoRow, desk_with(ROW, [(0, 5)]), f"row {text}")

    def test_a_row_that_is_refused_leaves_the_desk_without_one(self):
        for text in ["", "3", "3: 0-3"]:
            desk = Desk()
            with self.assertRaises(ArchError):
                desk.say(f"row {text}")
            self.refuses(NoneYet, desk.say, "most")


class MostTest(DeskTest):
    def test_by_hand(self):
        self.assertEqual(desk_with(ROW).say("most"), "3 0-5 1-2 3-4")
        self.assertEqual(desk_with((2, [(0, 1)])).say("most"), "1 0-1")
        self.assertEqual(desk_with((12, [(0, 11), (1, 10)])).say("most"), "2 0-11 1-10")

    def test_without_ties(self):
        for many in (0, 1, 3, 40):
            self.assertEqual(desk_with((many, [])).say("most"), "0")

    def test_what_is_kept_does_not_count(self):
        self.assertEqual(desk_with(ROW, [(1, 3)]).say("most"), "3 0-5 1-2 3-4")

    def test_rows(self):
        for row in small_rows():
            best = best_sets(row)[0]
            words = [str(len(best))] + [f"{a}-{b}" for a, b in best]
            self.assertEqual(desk_with(row).say("most"), " ".join(words), row)
        for row in [large_row(), blocks_row()]:
            words = [str(most_and_count(row)[0])] + [f"{a}-{b}" for a, b in first_best(row)]
            self.assertEqual(desk_with(row).say("most"), " ".join(words))


class SetsTest(DeskTest):
    def test_by_hand(self):
        self.assertEqual(self.told(desk_with(ROW), ["sets", "set 0", "set 3", "number (()())", "set 11"]), [
            "12", "......", "(()())", "3", "...()."])
        self.assertEqual(self.told(desk_with((0, [])), ["sets", "set 0", "number "]), ["1", "", "0"])
        self.assertEqual(self.told(desk_with((3, [])), ["sets", "set 0", "number ..."]), ["1", "...", "0"])

    def test_what_is_kept_does_not_count(self):
        self.assertEqual(self.told(desk_with(ROW, [(1, 3)]), ["sets", "set 3", "number (()())"]), ["12", "(()())", "3"])

    def test_every_set_of_small_rows(self):
        for row in small_rows():
            desk = desk_with(row)
            sets = sets_in_order(row)
            self.assertEqual(desk.say("sets"), str(len(sets)))
            for number, ties in enumerate(sets):
                text = brackets_plainly(row[0], ties)
                self.assertEqual(self.told(desk, [f"set {number}", f"number {text}"]), [text, str(number)])
            self.refuses(NoNumber, desk.say, f"set {len(sets)}")

    def test_forty_points_three_hundred_ties(self):
        for row in [large_row(), blocks_row(), full_row(25)]:
            desk = desk_with(row)
            count = count_sets(row)
            self.assertEqual(desk.say("sets"), str(count))
            for number in [0, 1, count // 7, count // 3, count // 2, count - 1]:
                text = brackets_plainly(row[0], set_at(row, number))
                self.assertEqual(self.told(desk, [f"set {number}", f"number {text}"]), [text, str(number)])
            text = brackets_plainly(row[0], most_ties(row)[1])
            self.assertEqual(desk.say(f"number {text}"), str(set_number(row, most_ties(row)[1])))

    def test_no_number(self):
        for row in [(0, []), (3, []), ROW]:
            count = count_sets(row)
            for number in [count, count + 1, 10 ** 40, FIGURES_60, "1" + "0" * 59]:
                self.refuses_and_stays(NoNumber, desk_with(row), f"set {number}")

    def test_no_text(self):
        for text in [")", "(", ")(", "(()", "())", "x", " ", "()()() ", " ()()()", "()\n", "[]....", "0", "......,"]:
            self.refuses(NoText, Desk().say, f"number {text}")
            self.refuses_and_stays(NoText, desk_with(ROW, [(0, 5)]), f"number {text}")

    def test_no_set_of_the_row(self):
        for text in [
            "", ".", ".....", ".......", "(()()).", ".(()())", "().()", "()....", "(())..", "().().", "(.)...",
            "((()))",
        ]:
            self.refuses_and_stays(NoSet, desk_with(ROW, [(0, 5)]), f"number {text}")
        self.refuses_and_stays(NoSet, desk_with((0, [])), "number .")
        self.refuses_and_stays(NoSet, desk_with((0, [])), "number ()")
        self.refuses_and_stays(NoSet, desk_with((2, [])), "number ()")
        self.refuses_and_stays(NoSet, desk_with((2, [])), "number ")


class KeepTest(DeskTest):
    def test_by_hand(self):
        desk = desk_with(ROW)
        said = ["keep 3-4", "kept", "keep 0-5", "kept", "keep 1-2", "kept"]
        self.assertEqual(self.told(desk, said), ["kept 1", "...().", "kept 2", "(..())", "kept 3", "(()())"])
        said = ["drop 0-5", "kept", "drop 3-4", "drop 1-2", "kept"]
        self.assertEqual(self.told(desk, said), ["kept 2", ".()().", "kept 1", "kept 0", "......"])

    def test_nothing_is_kept_at_first(self):
        for many in (0, 1, 3, 40):
            self.assertEqual(desk_with((many, [])).say("kept"), "." * many)

    def test_a_tie_that_is_not_the_rows(self):
        for desk in [desk_with(ROW), desk_with(ROW, [(0, 5), (1, 2)]), desk_with((0, [])), desk_with((40, []))]:
            for tie in ["1-0", "5-0", "2-1", "0-1", "0-0", "3-3", "4-5", "0-6", "6-7", "999-999", "0-999", "2-3"]:
                self.refuses_and_stays(NoTie, desk, f"keep {tie}")
                self.refuses_and_stays(NoTie, desk, f"drop {tie}")

    def test_a_tie_that_is_not_kept_can_not_be_dropped(self):
        desk = desk_with(ROW, [(0, 5), (1, 2)])
        for tie in ["1-3", "2-4", "3-4"]:
            self.refuses_and_stays(NoTie, desk, f"drop {tie}")
        self.assertEqual(desk.say("drop 1-2"), "kept 1")
        self.refuses_and_stays(NoTie, desk, "drop 1-2")

    def test_a_tie_that_can_not_be_kept_with_the_others(self):
        desk = desk_with(ROW, [(1, 3)])
        for tie in ["1-2", "2-4", "3-4", "1-3"]:
            self.refuses_and_stays(NoSet, desk, f"keep {tie}")
        self.assertEqual(desk.say("keep 0-5"), "kept 2")
        for tie in ["0-5", "1-3"]:
            self.refuses_and_stays(NoSet, desk, f"keep {tie}")
        self.assertEqual(desk.say("drop 1-3"), "kept 1")
        self.assertEqual(desk.say("keep 2-4"), "kept 2")

    def test_ties_kept_and_dropped_by_chance(self):
        for seed in range(40):
            chance = Random(seed)
            row = a_row(seed, 9, 20)
            desk = desk_with(row)
            held = []
            for step in range(60):
                tie = chance.choice(row[1] + [(0, 0), (3, 1)] + held)
                word = chance.choice(["keep", "keep", "drop"])
                said = f"{word} {tie[0]}-{tie[1]}"
                if tie not in row[1] or (word == "drop" and tie not in held):
                    self.refuses(NoTie, desk.say, said)
                elif word == "keep" and any(clash(tie, other) for other in held):
                    self.refuses(NoSet, desk.say, said)
                else:
                    held = sorted(held + [tie]) if word == "keep" else [other for other in held if other != tie]
                    self.assertEqual(desk.say(said), f"kept {len(held)}")
                self.assertEqual(desk.say("kept"), brackets_plainly(9, held))


class WholeTest(DeskTest):
    def test_by_hand(self):
        for row, answer in [((0, []), "yes"), ((1, []), "no"), ((2, []), "no"), ((2, [(0, 1)]), "yes"), (ROW, "yes")]:
            self.assertEqual(desk_with(row).say("whole"), answer)

    def test_what_is_kept_does_not_count(self):
        self.assertEqual(desk_with(ROW, [(1, 3)]).say("whole"), "yes")

    def test_rows(self):
        for row in small_rows():
            whole = any(2 * len(ties) == row[0] for ties in all_sets(row))
            self.assertEqual(desk_with(row).say("whole"), "yes" if whole else "no", row)
        for row in [large_row(), blocks_row()]:
            self.assertEqual(desk_with(row).say("whole"), "no")
        self.assertEqual(desk_with((40, [(k, 39 - k) for k in range(20)])).say("whole"), "yes")


class StillTest(DeskTest):
    def test_by_hand(self):
        self.assertEqual(desk_with(ROW).say("still"), "3")
        self.assertEqual(desk_with(ROW, [(1, 3)]).say("still"), "2")
        self.assertEqual(desk_with(ROW, [(1, 3), (0, 5)]).say("still"), "2")
        self.assertEqual(desk_with(ROW, [(1, 2)]).say("still"), "3")
        self.assertEqual(desk_with((0, [])).say("still"), "0")
        self.assertEqual(desk_with((40, [])).say("still"), "0")

    def test_it_rises_when_a_tie_is_dropped(self):
        desk = desk_with(ROW)
        self.assertEqual(self.told(desk, ["keep 2-4", "still", "drop 2-4", "still"]), ["kept 1", "2", "kept 0", "3"])

    def test_every_set_of_small_rows_kept(self):
        for row in small_rows():
            if row[0] < 8:
                sets = all_sets(row)
                for kept in sets:
                    most = max(len(ties) for ties in sets if set(kept) <= set(ties))
                    self.assertEqual(desk_with(row, kept[::-1]).say("still"), str(most), (row, kept))

    def test_forty_points_three_hundred_ties(self):
        for row in [large_row(), blocks_row()]:
            self.assertEqual(desk_with(row).say("still"), str(most_and_count(row)[0]))
            self.assertEqual(desk_with(row, most_ties(row)[1]).say("still"), str(most_and_count(row)[0]))
            for part in range(1, 12):
                kept = set_at(row, count_sets(row) * part // 12)[::2]
                rest = [tie for tie in row[1] if not any(clash(tie, other) for other in kept)]
                most = len(kept) + most_and_count((40, rest))[0]
                self.assertEqual(desk_with(row, kept).say("still"), str(most))


class FormTest(DeskTest):
    def refuses_by_any_desk(self, row):
        self.refuses(NoForm, Desk().say, row)
        desk = desk_with(ROW, [(0, 5), (1, 2)])
        self.refuses(NoForm, desk.say, row)
        self.assertEqual(desk.say("kept"), "(()..)")

    def test_no_text(self):
        for row in [None, True, False, 0, 5, -1, 10 ** 29, b"", b"most", [], ["most"], (), ("most",), {}, {"most": 1}]:
            self.refuses_by_any_desk(row)
        for row in [set(), {"most"}, Desk(), Desk, len]:
            self.refuses_by_any_desk(row)

    def test_other_words(self):
        for row in [
            "", " ", "  ", "\n", "x", "Most", "MOST", "mos", "mostly", "Row 3:", "rows 3:", "row3:", "row:3", "help",
            "count", "size", "next", "sets.", "0", "()", "3:", "still?", "whole!", "points 3", "none", "add 0-1",
        ]:
            self.refuses_by_any_desk(row)

    def test_words_that_stand_alone(self):
        for word in ALONE:
            for row in [f"{word} ", f" {word}", f"{word}\n", f"\n{word}", f"{word} 0", f"{word} x", f"{word}{word}",
                        f"{word} 0-1", f"{word}\t", f"{word}  ", f"{word} {word}"]:
                self.refuses_by_any_desk(row)

    def test_words_with_something_behind(self):
        for word in ["row", "set", "number", "keep", "drop"]:
            for row in [word, f"{word}\n", f" {word} 0", f"{word}\t0", f"{word}\n0-1", f"{word.upper()} 0"]:
                self.refuses_by_any_desk(row)
        for word in ["set", "keep", "drop"]:
            for row in [f"{word} ", f"{word}  ", f"{word} \n"]:
                self.refuses_by_any_desk(row)

    def test_numbers(self):
        for number in [
            "00", "01", "007", "-1", "+1", " 1", "1 ", "  1", "1\n", "\n1", "1.0", "1.", "1_0", "1e3", "x", "1x", "0x1",
            "1,0", "1 2", "0-1", "1" * 61, "0" * 60, "1" + "0" * 60, "1" * 1990, "\u0661", "\u00b2",
        ]:
            self.refuses_by_any_desk(f"set {number}")

    def test_numbers_of_up_to_sixty_figures_have_the_form(self):
        desk = desk_with(ROW)
        self.refuses(NoNumber, desk.say, f"set {FIGURES_60}")
        self.refuses(NoNumber, desk.say, "set 1" + "0" * 59)
        self.refuses(NoNumber, desk.say, "set 12")
        self.assertEqual(desk.say("set 0"), "......")
        self.assertEqual(desk.say("set 10"), "..(.).")

    def test_ties(self):
        for tie in [
            "0", "0-", "-1", "-", "0-1-2", "0--1", "00-1", "0-01", "0-1000", "1000-1", "0 -1", "0- 1", " 0-1", "0-1 ",
            "0-1\n", "\n0-1", "0-1 1-2", "0_1", "0:1", "0,1", "(0, 1)", "a-b", "0-x", "x-1", "+0-1", "0-+1", "0.0-1",
            "0-5 ", "0-5.", "0 5", "05", "0-\u0665", "0" * 1990 + "-1",
        ]:
            self.refuses_by_any_desk(f"keep {tie}")
            self.refuses_by_any_desk(f"drop {tie}")

    def test_what_has_the_form(self):
        desk = desk_with(ROW)
        for tie in ["1-0", "0-0", "999-999", "999-0", "0-999", "10-100"]:
            self.refuses(NoTie, desk.say, f"keep {tie}")
            self.refuses(NoTie, desk.say, f"drop {tie}")


class NoneYetTest(DeskTest):
    def test_without_a_row(self):
        for row in ALONE + [
            "set 0", "set 1", f"set {FIGURES_60}", "number ", "number .", "number ()", "number (()())", "keep 0-1",
            "keep 1-0", "keep 0-0", "keep 999-999", "drop 0-1", "drop 1-0", "drop 5-5",
        ]:
            desk = Desk()
            self.refuses(NoneYet, desk.say, row)
            self.assertEqual(desk.say("row 2: 0-1"), "points 2")
            self.assertEqual(desk.say("kept"), "..")

    def test_no_form_and_no_text_go_ahead(self):
        for row in ["set 00", "set x", "keep 0", "drop 00-1", "most ", "", None, 7]:
            self.refuses(NoForm, Desk().say, row)
        for row in ["number (", "number )", "number x", "number () "]:
            self.refuses(NoText, Desk().say, row)


class OrderTest(DeskTest):
    def test_no_tie_goes_ahead_of_no_set(self):
        desk = desk_with((6, [(0, 2), (1, 3), (4, 5)]), [(0, 2)])
        self.refuses_and_stays(NoTie, desk, "keep 0-1")
        self.refuses_and_stays(NoTie, desk, "keep 2-0")
        self.refuses_and_stays(NoTie, desk, "keep 1-2")
        self.refuses_and_stays(NoSet, desk, "keep 1-3")
        self.refuses_and_stays(NoTie, desk, "drop 1-3")

    def test_no_text_goes_ahead_of_no_set_and_no_row(self):
        desk = desk_with(ROW, [(0, 5)])
        self.refuses_and_stays(NoText, desk, "number (((")
        self.refuses_and_stays(NoText, desk, "row 3: 1-1 0-9")


class TwoDesksTest(DeskTest):
    def test_two_desks_beside_one_another(self):
        one = Desk()
        other = Desk()
        self.assertEqual(one.say(f"row {TEXT}"), "points 6")
        self.refuses(NoneYet, other.say, "most")
        self.assertEqual(other.say("row 2: 0-1"), "points 2")
        self.assertEqual(one.say("keep 1-3"), "kept 1")
        self.assertEqual(other.say("kept"), "..")
        self.assertEqual(other.say("keep 0-1"), "kept 1")
        self.assertEqual(one.say("kept"), ".(.)..")
        self.assertEqual(one.say("drop 1-3"), "kept 0")
        self.assertEqual(other.say("kept"), "()")
        self.refuses(NoTie, one.say, "drop 0-1")
        self.assertEqual([one.say("most"), other.say("most")], ["3 0-5 1-2 3-4", "1 0-1"])
        self.refuses(NoneYet, Desk().say, "kept")

    def test_the_same_row_at_two_desks(self):
        one = desk_with(ROW, [(0, 5)])
        other = desk_with(ROW, [(1, 3)])
        self.assertEqual([one.say("kept"), other.say("kept")], ["(....)", ".(.).."])
        self.assertEqual([one.say("still"), other.say("still")], ["3", "2"])


class LongTalkTest(DeskTest):
    def test_answers_do_not_hang_on_what_was_asked(self):
        desk = desk_with(ROW, [(0, 5)])
        first = state_of(desk)
        for row in ["set 3", "number (()())", "sets", "most", "whole", "still", "kept"] * 3:
            desk.say(row)
        for row in ["set 99", "number ()", "keep 1-0", "drop 1-2", "row x", "row 3: 0-9", "huh", "number )"]:
            with self.assertRaises(ArchError):
                desk.say(row)
        self.assertEqual(state_of(desk), first)


if __name__ == "__main__":
    unittest.main()
