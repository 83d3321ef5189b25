"""Point 11: yards written and read."""

import unittest

from cisternyard.errors import BadText
from cisternyard.notes import read, written
from cisternyard.yard import Yard
from helper import assert_refused, samples

TEXTS = (
    ([12], [3], "3 of 12"),
    ([0], [0], "0 of 0"),
    ([50], [50], "50 of 50"),
    ([10], [9], "9 of 10"),
    ([9, 50], [9, 0], "9 of 9\n0 of 50"),
    ([1, 0, 20], [1, 0, 10], "1 of 1\n0 of 0\n10 of 20"),
    ([12, 7, 50, 49], [3, 6, 11, 0], "3 of 12\n6 of 7\n11 of 50\n0 of 49"),
)


class Notes(unittest.TestCase):
    def assert_read(self, text, rooms, waters):
        yard = read(text)
        self.assertIsInstance(yard, Yard)
        self.assertEqual((yard.rooms(), yard.waters()), (rooms, waters))

    def test_written(self):
        for rooms, waters, text in TEXTS:
            self.assertEqual(written(Yard(rooms, waters)), text)

    def test_read(self):
        for rooms, waters, text in TEXTS:
            self.assert_read(text, rooms, waters)

    def test_every_room_and_every_water_in_it(self):
        for room in range(51):
            for water in range(room + 1):
                text = str(water) + " of " + str(room)
                self.assertEqual(written(Yard([room], [water])), text)
                self.assert_read(text, [room], [water])
                self.assertEqual(written(Yard([0, room], [0, water])), "0 of 0\n" + text)

    def test_what_is_written_is_read_as_it_was(self):
        for yard, days in samples(41, 300):
            self.assert_read(written(yard), yard.rooms(), yard.waters())

    def test_a_yard_on_which_days_have_gone_by(self):
        yard = Yard([12, 4], [3, 0])
        yard.day([14, 1], [2, 2])
        self.assertEqual(written(yard), "12 of 12\n2 of 4")

    def test_another_yard_each_time(self):
        yard = Yard([12, 4], [3, 0])
        first = read(written(yard))
        second = read(written(yard))
        self.assertIsNot(first, yard)
        self.assertIsNot(first, second)
        first.day([30, 30], [0, 0])
        self.assertEqual((yard.waters(), second.waters()), ([3, 0], [3, 0]))

    def test_the_yard_written_stays(self):
        yard = Yard([12, 4], [3, 0])
        written(yard)
        self.assertEqual((yard.rooms(), yard.waters()), ([12, 4], [3, 0]))

    def test_arguments_by_name(self):
        self.assertEqual(written(yard=read(text="3 of 12")), "3 of 12")


class RefusedTexts(unittest.TestCase):
    def refused(self, *texts):
        for text in texts:
            with self.subTest(text=text):
                assert_refused(self, BadText, read, text)
        for text in texts:
            with self.subTest(text=text, among="right lines"):
                assert_refused(self, BadText, read, text + "\n0 of 0")
                assert_refused(self, BadText, read, "0 of 0\n" + text)

    def test_the_empty_text_and_lines_without_a_tank(self):
        self.refused("", "\n", "\n\n", " ", "\t", "   ")

    def test_a_line_end_more(self):
        self.refused("3 of 12\n", "\n3 of 12", "\n3 of 12\n", "3 of 12\n\n", "3 of 12\n6 of 7\n")

    def test_an_empty_line_between(self):
        self.refused("3 of 12\n\n6 of 7", "3 of 12\n \n6 of 7", "3 of 12\n\n\n6 of 7")

    def test_five_lines_and_more(self):
        for count in (5, 6, 7, 20):
            assert_refused(self, BadText, read, "\n".join(["3 of 12"] * count))
            assert_refused(self, BadText, read, "\n".join(["0 of 0"] * count))

    def test_a_needless_nought(self):
        self.refused("03 of 12", "3 of 012", "00 of 1", "0 of 00", "00 of 00", "003 of 12", "0 of 050")

    def test_signs_before_the_figures(self):
        self.refused("+3 of 12", "-3 of 12", "3 of +12", "3 of -12", "-0 of 12", "+0 of 12", "0 of -0", "--3 of 12")

    def test_blanks_and_tabs(self):
        self.refused(
            "3  of 12", "3 of  12", " 3 of 12", "3 of 12 ", "3\tof 12", "3 of\t12", "\t3 of 12", "3 of 12\t",
            "3 \tof 12", "1 2 of 12", "3 o f 12", "3 of 1 2", "  3 of 12", "3 of 12  ",
        )

    def test_another_word(self):
        self.refused("3 Of 12", "3 OF 12", "3 oF 12", "3 off 12", "3 o 12", "3 in 12", "3 / 12", "3 12 12", "3 of, 12")

    def test_a_missing_part(self):
        self.refused("3", "3 of", "of 12", "of", "3 12", "3 of ", " of 12", " of ", "12", "3 of\n12", "3\nof 12")

    def test_a_part_more(self):
        self.refused("3 of 12 of", "3 of 12 13", "3 of 12 of 13", "x 3 of 12", "3 of of 12", "3 3 of 12")

    def test_blanks_left_out(self):
        self.refused("3of 12", "3 of12", "3of12")

    def test_figures_with_other_signs(self):
        self.refused(
            "1_0 of 12", "1_0 of 1_2", "3 of 1_2", "3 of 1,2", "3. of 12", "3.0 of 12", "3 of 12.", "0x3 of 12",
            "1e1 of 12", "three of 12", "3 of twelve", "(3) of 12", "3 of '12'", "3; of 12", "~ of 12",
        )

    def test_water_above_the_room(self):
        self.refused("13 of 12", "1 of 0", "50 of 49", "10 of 9")

    def test_a_room_above_fifty(self):
        self.refused("3 of 51", "0 of 51", "51 of 51", "3 of 99", "3 of 100", "100 of 100")

    def test_many_figures(self):
        many = "9" * 90
        self.refused("3 of " + many, many + " of 12", many + " of " + many, "1" + "0" * 40 + " of 12")
        assert_refused(self, BadText, read, "3 of " + "1" * 195)
        assert_refused(self, BadText, read, "3 of " + "1" * 9000)

    def test_not_a_text(self):
        for value in (None, 3, ["3 of 12"], ("3 of 12",)):
            assert_refused(self, BadText, read, value)

    def test_one_wrong_line_in_any_place(self):
        right = ["3 of 12"] * 4
        for place in range(4):
            for wrong in ("13 of 12", "", "3 of 51", "03 of 12", "3 of 12 "):
                assert_refused(self, BadText, read, "\n".join(right[:place] + [wrong] + right[place + 1:]))

    def test_every_text_one_sign_off(self):
        signs = [chr(code) for code in range(32, 127) if chr(code) != "%"] + ["\t", "\n"]
        text = "3 of 12"
        allowed = {written(Yard([room], [water])) for room in range(51) for water in range(room + 1)}
        for place in range(len(text) + 1):
            for sign in signs:
                for changed in (text[:place] + sign + text[place:], text[:place] + sign + text[place + 1:]):
                    if changed not in allowed:
                        assert_refused(self, BadText, read, changed)
            if text[:place] + text[place + 1:] not in allowed:
                assert_refused(self, BadText, read, text[:place] + text[place + 1:])


if __name__ == "__main__":
    unittest.main()
