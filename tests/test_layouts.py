"""Stage 2 of the document, as far as it speaks of layouts: points 2.1 and 2.2."""

import unittest

from revokelog.disks import Disk
from revokelog.errors import BadBlock, BadLayout
from revokelog.layouts import Layout, new_disk
from support import NO_INTEGERS, raised, state


class AlwaysEqual:
    def __eq__(self, other):
        return True


class LayoutTest(unittest.TestCase):
    """2.1"""

    def test_document_example(self):
        layout = Layout(8, 4)
        self.assertEqual([layout.disk_size(), layout.slot_block(7), layout.home_block(0)], [13, 8, 9])

    def test_least_and_greatest_numbers(self):
        for slots, homes in ((8, 4), (64, 4), (8, 32), (64, 32), (9, 31)):
            layout = Layout(slots, homes)
            self.assertEqual((layout.slots(), layout.homes()), (slots, homes))
            self.assertEqual(layout.disk_size(), 1 + slots + homes)

    def test_header_slots_and_homes_cover_the_disk(self):
        for layout in (Layout(8, 4), Layout(64, 32), Layout(11, 7)):
            blocks = [0]
            blocks.extend(layout.slot_block(slot) for slot in range(layout.slots()))
            blocks.extend(layout.home_block(home) for home in range(layout.homes()))
            self.assertEqual(blocks, list(range(layout.disk_size())))

    def test_bad_slots(self):
        for slots in (7, 65, 0, -8, 10 ** 30, *NO_INTEGERS):
            with self.subTest(repr(slots)):
                self.assertEqual(raised(self, BadLayout, Layout, slots, 4).why, "slots")

    def test_bad_homes(self):
        for homes in (3, 33, 0, -4, 10 ** 30, *NO_INTEGERS):
            with self.subTest(repr(homes)):
                self.assertEqual(raised(self, BadLayout, Layout, 8, homes).why, "homes")

    def test_slots_come_before_homes(self):
        for slots, homes in ((7, 3), (65, True), (None, None), ([], {})):
            self.assertEqual(raised(self, BadLayout, Layout, slots, homes).why, "slots")

    def test_no_slots_and_no_homes(self):
        layout = Layout(8, 4)
        for slot in (8, -1, 10 ** 30, *NO_INTEGERS):
            with self.subTest(repr(slot)):
                self.assertIs(raised(self, BadBlock, layout.slot_block, slot).block, slot)
        for home in (4, 7, -1, 10 ** 30, *NO_INTEGERS):
            with self.subTest(repr(home)):
                self.assertIs(raised(self, BadBlock, layout.home_block, home).block, home)
        self.assertEqual(layout, Layout(8, 4))

    def test_equality(self):
        self.assertTrue(Layout(8, 4) == Layout(8, 4))
        self.assertFalse(Layout(8, 4) != Layout(8, 4))
        for other in (Layout(9, 4), Layout(8, 5), Layout(12, 8)):
            self.assertFalse(Layout(8, 4) == other)
            self.assertTrue(Layout(8, 4) != other)
        self.assertFalse(Layout(8, 12) == Layout(12, 8))

    def test_a_layout_equals_no_other_object(self):
        for other in (None, (8, 4), [8, 4], "Layout(8, 4)", 8, Disk(13), Layout, object(), AlwaysEqual()):
            with self.subTest(repr(other)):
                self.assertIs(Layout(8, 4) == other, False)
                self.assertIs(Layout(8, 4) != other, True)

    def test_repr(self):
        self.assertEqual([repr(Layout(8, 4)), repr(Layout(64, 32))], ["Layout(8, 4)", "Layout(64, 32)"])


class NewDiskTest(unittest.TestCase):
    """2.2"""

    def test_header_and_events(self):
        for layout in (Layout(8, 4), Layout(64, 32), Layout(16, 6)):
            disk = new_disk(layout)
            values = [("tail", 1, 0)] + [0] * (layout.slots() + layout.homes())
            events = [("write", 0, ("tail", 1, 0)), ("flush",)]
            self.assertEqual(state(disk), (layout.disk_size(), values, values, [], events))

    def test_each_disk_is_a_new_one(self):
        layout = Layout(8, 4)
        disk = new_disk(layout)
        before = state(disk)
        new_disk(layout).write(1, "x")
        self.assertEqual(state(disk), before)
        self.assertEqual(state(disk.after(0)), state(Disk(13)))
        self.assertEqual(layout, Layout(8, 4))


if __name__ == "__main__":
    unittest.main()
