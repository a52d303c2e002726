"""crystalwords.seventeen."""

import unittest

from crystalwords.cells import moves
from crystalwords.errors import NoNumber
from crystalwords.groups import Group
from crystalwords.marks import marks
from crystalwords.seventeen import told_group
from crystalwords.texts import shown
from group_samples import SEVENTEEN, CallCase, makers_of, state


class Seventeen(CallCase):
    def test_makers_and_members(self):
        for number, (text, wanted) in SEVENTEEN.items():
            with self.subTest(number=number):
                told = told_group(number)
                self.assertIsInstance(told, Group)
                self.assertEqual(told.axes(), 2)
                self.assertEqual(told.makers(), makers_of(text))
                self.assertEqual(state(told), state(Group(2, makers_of(text))))
                self.assertEqual(len(told.members()), wanted[0])
                self.assertEqual(moves(told), [((0, 0), 1)])

    def test_marks(self):
        for number, (text, wanted) in SEVENTEEN.items():
            self.assertEqual(marks(told_group(number)), wanted)
        self.assertEqual(len({wanted for text, wanted in SEVENTEEN.values()}), 17)

    def test_members_written_out(self):
        for number, wanted in (
            (1, "x,y"), (4, "-x,y+1/2 x,y"), (8, "-x,-y -x+1/2,y+1/2 x+1/2,-y+1/2 x,y"), (13, "-x+y,-x -y,x-y x,y"),
            (14, "-x+y,-x -x+y,y -y,-x -y,x-y x,x-y x,y"), (15, "-x,-x+y -x+y,-x -y,x-y y,x x-y,-y x,y"),
        ):
            texts = [shown(one) for one in told_group(number).members()]
            self.assertEqual(sorted(texts), sorted(wanted.split()))

    def test_asked_for_again(self):
        for number in SEVENTEEN:
            wanted = state(told_group(number))
            told = told_group(number)
            told.members().clear()
            told.makers().append(1)
            for word in told.words():
                word.append(5)
            self.assertEqual(state(told), wanted)
            self.assertEqual(state(told_group(number)), wanted)

    def test_a_number_beyond(self):
        for number in (0, 18, -1, -17, 19, 100, 10 ** 99, -(10 ** 99)):
            self.refused(NoNumber, told_group, number)


if __name__ == "__main__":
    unittest.main()
