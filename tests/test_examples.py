"""The examples of the document, each of them as it stands there."""

import unittest
from ast import parse, unparse

from revokelog import errors

EXAMPLES = """
>>> from revokelog.disks import Disk
>>> disk = Disk(3)
>>> disk.write(1, 'x')
>>> disk.flush()
>>> disk.write(1, 'y')
>>> [disk.read(1), disk.durable(), disk.pending()]
['y', [0, 'x', 0], [(1, 'y')]]

>>> from revokelog.disks import Disk
>>> disk = Disk(2)
>>> disk.write(0, 1)
>>> disk.write(0, 2)
>>> disk.write(1, 3)
>>> [disk.crashed([0, 2]).durable(), disk.crashed([1]).durable()]
[[1, 3], [2, 0]]

>>> from revokelog.disks import Disk
>>> disk = Disk(2)
>>> disk.write(0, 1)
>>> disk.write(1, 2)
>>> disk.crashed([1, 0])
raises BadChoice(at=1)

>>> from revokelog.disks import Disk, crash_choices
>>> disk = Disk(2)
>>> disk.write(0, 1)
>>> disk.write(1, 2)
>>> crash_choices(disk)
[[], [0], [0, 1], [1]]

>>> from revokelog.disks import Disk
>>> disk = Disk(2)
>>> disk.write(0, 'a')
>>> disk.flush()
>>> disk.write(0, 'b')
>>> [disk.after(2).read(0), disk.after(2).events()]
['a', [('write', 0, 'a'), ('flush',)]]

>>> from revokelog.layouts import Layout
>>> layout = Layout(8, 4)
>>> [layout.disk_size(), layout.slot_block(7), layout.home_block(0)]
[13, 8, 9]

>>> from revokelog.layouts import Layout
>>> Layout(7, 4)
raises BadLayout(why='slots')

>>> from revokelog.records import records_of
>>> records_of(3, [(2, 'a')], [0, 5])
[('revoke', 3, (0, 5)), ('descriptor', 3, (2,)), ('copy', 3, 'a'), ('commit', 3)]

>>> from revokelog.records import slots_needed
>>> slots_needed([], [0, 1, 2, 3, 4, 5, 6, 7, 8])
3

>>> from revokelog.records import records_of
>>> records_of(1, [(2, 'a'), (1, 'b')], [])
raises BadBlock(block=1)

>>> from revokelog.layouts import Layout, new_disk
>>> from revokelog.records import transaction_at
>>> layout = Layout(8, 4)
>>> disk = new_disk(layout)
>>> disk.write(8, ('revoke', 1, (2,)))
>>> disk.write(1, ('commit', 1))
>>> [transaction_at(layout, disk, 1, 7), transaction_at(layout, disk, 2, 7)]
[([], [2], 1), None]

>>> from revokelog.layouts import Layout
>>> from revokelog.runs import run
>>> from revokelog.stores import Store
>>> run(Store(Layout(16, 6)), [('make', '/a'), ('make', '/a'), ('commit',), ('commit',)])
[(None, 13), ('HasEntry', 13), (2, 20), (None, 20)]

>>> from revokelog.layouts import Layout
>>> from revokelog.runs import trees
>>> trees(Layout(16, 6), [('put', '/f', [1]), ('commit',), ('remove', '/f'), ('commit',)])
[(1, []), (2, [('/f', (1,))]), (3, [])]

>>> from revokelog.layouts import Layout
>>> from revokelog.runs import trees
>>> trees(Layout(16, 6), [('make',)])
raises BadStep(at=0)

>>> from revokelog.recovery import revoked
>>> log = [(1, [(2, 'a'), (3, 'b')], []), (2, [(3, 'c')], [2]), (3, [(2, 'd')], [])]
>>> revoked(log)
[(2, 2)]

>>> from revokelog.recovery import replay
>>> log = [(1, [(2, 'a'), (3, 'b')], []), (2, [(3, 'c')], [2]), (3, [(2, 'd')], [])]
>>> replay(log)
[(3, 'b'), (3, 'c'), (2, 'd')]

>>> from revokelog.recovery import replay
>>> replay([(7, [(2, 'a')], [2])])
[]

>>> from revokelog.layouts import Layout, new_disk
>>> from revokelog.recovery import scan
>>> layout = Layout(8, 4)
>>> disk = new_disk(layout)
>>> disk.write(1, ('descriptor', 1, (2,)))
>>> disk.write(2, ('copy', 1, 'a'))
>>> disk.write(3, ('commit', 1))
>>> scan(layout, disk)
[(1, [(2, 'a')], [])]

>>> from revokelog.layouts import Layout, new_disk
>>> from revokelog.recovery import scan
>>> layout = Layout(8, 4)
>>> disk = new_disk(layout)
>>> disk.write(1, ('descriptor', 1, (2,)))
>>> disk.write(3, ('commit', 1))
>>> scan(layout, disk)
[]

>>> from revokelog.layouts import Layout, new_disk
>>> from revokelog.recovery import recover
>>> layout = Layout(8, 4)
>>> disk = new_disk(layout)
>>> disk.write(1, ('descriptor', 1, (2,)))
>>> disk.write(2, ('copy', 1, 'a'))
>>> disk.write(3, ('commit', 1))
>>> journal = recover(layout, disk)
>>> [disk.durable()[0], disk.durable()[11], journal.numbers()]
[('tail', 2, 3), 'a', (2, 2)]

>>> from revokelog.disks import Disk
>>> from revokelog.layouts import Layout
>>> from revokelog.recovery import scan
>>> scan(Layout(8, 4), Disk(13))
raises BadValue(why='header')

>>> from revokelog.rules import shows_harm
>>> steps = [('make', '/a'), ('commit',), ('checkpoint',), ('remove', '/a'), ('put', '/f', ('x',))]
>>> shows_harm('reuse', (32, 6, steps, 27, [0]))
True

>>> from revokelog.rules import shows_harm
>>> steps = [('make', '/a'), ('commit',), ('checkpoint',), ('remove', '/a'), ('put', '/f', ('x',))]
>>> shows_harm(None, (32, 6, steps, 27, []))
False

>>> from revokelog.rules import harm
>>> harm('revokes')
raises BadRule(rule='revokes')

>>> from revokelog.journals import RULES
>>> RULES
('revoke', 'cancel', 'drop', 'reuse', 'forget', 'commit', 'settle', 'tail', 'header')

>>> from revokelog.journals import Journal
>>> from revokelog.layouts import Layout, new_disk
>>> layout = Layout(8, 4)
>>> journal = Journal(layout, new_disk(layout))
>>> journal.log(2, 'a')
>>> journal.log(3, 'b')
>>> journal.revoke(3)
>>> journal.running()
([(2, 'a')], [3])

>>> from revokelog.journals import Journal
>>> from revokelog.layouts import Layout, new_disk
>>> layout = Layout(8, 4)
>>> disk = new_disk(layout)
>>> journal = Journal(layout, disk)
>>> journal.log(2, 'a')
>>> journal.revoke(3)
>>> number = journal.commit()
>>> (number, journal.kept(), journal.numbers(), journal.free_slots(), disk.events()[2:])
(1, [(1, [2])], (1, 2), 5, [('write', 1, ('descriptor', 1, (2,))), ('write', 2, ('copy', 1, 'a')), ('flush',), ('write', 3, ('commit', 1)), ('flush',)])

>>> from revokelog.journals import Journal
>>> from revokelog.layouts import Layout, new_disk
>>> layout = Layout(8, 4)
>>> disk = new_disk(layout)
>>> journal = Journal(layout, disk)
>>> journal.log(2, 'a')
>>> number = journal.commit()
>>> dropped = journal.checkpoint()
>>> (dropped, journal.kept(), journal.numbers(), journal.free_slots(), disk.events()[7:])
(1, [], (2, 2), 8, [('write', 11, 'a'), ('flush',), ('write', 0, ('tail', 2, 3)), ('flush',)])

>>> from revokelog.journals import Journal
>>> from revokelog.layouts import Layout, new_disk
>>> layout = Layout(8, 4)
>>> journal = Journal(layout, new_disk(layout))
>>> journal.log(0, 'a')
>>> journal.log(1, 'b')
>>> journal.log(2, 'c')
>>> journal.commit()
>>> journal.log(3, 'd')
>>> journal.log(0, 'e')
>>> journal.commit()
raises NoSpace(needed=4, free=3)

>>> from revokelog.journals import Journal
>>> from revokelog.layouts import Layout, new_disk
>>> layout = Layout(8, 4)
>>> journal = Journal(layout, new_disk(layout))
>>> journal.log(4, 'a')
raises BadBlock(block=4)

>>> from revokelog.journals import Journal
>>> from revokelog.layouts import Layout, new_disk
>>> layout = Layout(8, 4)
>>> journal = Journal(layout, new_disk(layout))
>>> journal.log(2, ((((((((),),),),),),),))
raises BadValue

>>> from revokelog.journals import Journal, needed
>>> from revokelog.layouts import Layout, new_disk
>>> layout = Layout(32, 4)
>>> journal = Journal(layout, new_disk(layout))
>>> journal.log(2, 'a')
>>> journal.commit()
>>> journal.revoke(2)
>>> journal.revoke(3)
>>> needed(journal)
[2]

>>> from revokelog.journals import Journal, needed
>>> from revokelog.layouts import Layout, new_disk
>>> layout = Layout(32, 4)
>>> journal = Journal(layout, new_disk(layout))
>>> journal.log(2, 'a')
>>> journal.commit()
>>> journal.revoke(2)
>>> journal.commit()
>>> journal.revoke(2)
>>> needed(journal)
[]

>>> from revokelog.journals import Journal
>>> from revokelog.layouts import Layout, new_disk
>>> layout = Layout(32, 4)
>>> journal = Journal(layout, new_disk(layout))
>>> journal.log(2, 'a')
>>> journal.commit()
>>> journal.log(2, 'b')
>>> journal.log(3, 'c')
>>> journal.commit()
>>> journal.revoke(3)
>>> journal.commit()
>>> (journal.kept(), journal.value(2), journal.value(3), journal.checkpoint(), journal.kept())
([(1, []), (2, [2]), (3, [])], 'b', 0, 1, [(2, [2]), (3, [])])

>>> from revokelog.journals import Journal
>>> from revokelog.layouts import Layout, new_disk
>>> layout = Layout(8, 4)
>>> Journal(layout, new_disk(layout), without='flush')
raises BadRule(rule='flush')

>>> from revokelog.layouts import Layout
>>> from revokelog.stores import Store
>>> store = Store(Layout(16, 8))
>>> store.make('/a')
>>> store.put('/a/f', ['x', 7])
>>> [store.tree(), store.names('/'), store.get('/a/f'), store.commit()]
[[('/a', None), ('/a/f', ('x', 7))], ['a'], ('x', 7), 2]

>>> from revokelog.layouts import Layout
>>> from revokelog.stores import Store
>>> store = Store(Layout(16, 8))
>>> store.make('/a')
>>> store.put('/a/f', ['x', 7])
>>> [store.journal().value(home) for home in [0, 1, 2, 3]]
[(1, 1, 1, 2, 2, 0, 0, 0), (('a', 'dir', 2),), (('f', 'file', (3, 4)),), 'x']

>>> from revokelog.layouts import Layout
>>> from revokelog.stores import Store
>>> Store(Layout(8, 4)).put('/f', [1, 2, 3])
raises NoRoom(needed=3, free=2)

>>> from revokelog.layouts import Layout
>>> from revokelog.stores import Store
>>> store = Store(Layout(16, 6))
>>> store.put('/f', [1, 2])
>>> store.commit()
>>> store.put('/f', [3, 4])
>>> [store.get('/f'), store.journal().value(0)]
[(3, 4), (1, 1, 0, 0, 2, 2)]

>>> from revokelog.layouts import Layout
>>> from revokelog.stores import Store
>>> store = Store(Layout(16, 6))
>>> store.put('/f', [1, 2])
>>> store.commit()
>>> store.put('/f', [3, 4])
>>> store.put('/g', [5])
raises NoRoom(needed=1, free=0)

>>> from revokelog.layouts import Layout
>>> from revokelog.stores import Store
>>> store = Store(Layout(16, 6))
>>> store.make('/a')
>>> store.move('/a', '/a/b')
raises BadPath(path='/a/b')

>>> from revokelog.layouts import Layout
>>> from revokelog.stores import Store
>>> store = Store(Layout(16, 6))
>>> store.make('/a')
>>> store.make('/a/b')
>>> store.remove('/a')
raises NotEmpty(path='/a')

>>> from revokelog.layouts import Layout
>>> from revokelog.stores import Store
>>> store = Store(Layout(16, 6))
>>> store.put('/f', [])
>>> store.make('/f/b/c')
raises NoEntry(path='/f')

>>> from revokelog.layouts import Layout
>>> from revokelog.stores import Store
>>> store = Store(Layout(16, 6))
>>> store.make('/a')
>>> store.put('/a/f', [1])
>>> store.move('/a', '/b')
>>> [store.tree(), store.journal().running()[1]]
[[('/b', None), ('/b/f', (1,))], []]

>>> from revokelog.crashes import all_crashes
>>> from revokelog.layouts import Layout
>>> from revokelog.stores import Store
>>> store = Store(Layout(16, 8))
>>> store.put('/f', ['x', 7])
>>> all_crashes(store)
[(1, [])]

>>> from revokelog.crashes import all_crashes
>>> from revokelog.layouts import Layout
>>> from revokelog.stores import Store
>>> store = Store(Layout(16, 8))
>>> store.make('/a')
>>> store.commit()
>>> count = len(store.disk().events())
>>> [all_crashes(store, many=count - 1), all_crashes(store, many=count)]
[[(1, []), (2, [('/a', None)])], [(2, [('/a', None)])]]

>>> from revokelog.crashes import crashed_store, last_committed
>>> from revokelog.layouts import Layout
>>> from revokelog.stores import Store
>>> store = Store(Layout(16, 8))
>>> store.make('/a')
>>> store.commit()
>>> store.remove('/a')
>>> [store.tree(), crashed_store(store, []).tree(), last_committed(store.layout(), store.disk())]
[[], [('/a', None)], 2]

>>> from revokelog.crashes import crashed_store
>>> from revokelog.layouts import Layout
>>> from revokelog.stores import Store
>>> store = Store(Layout(16, 4))
>>> store.make('/d')
>>> store.commit()
>>> store.remove('/d')
>>> store.commit()
>>> store.put('/f', [7])
>>> store.commit()
>>> crashed_store(store, []).tree()
[('/f', (7,))]

>>> from revokelog.crashes import crashed_store
>>> from revokelog.layouts import Layout
>>> from revokelog.stores import Store
>>> store = Store(Layout(16, 4), without='revoke')
>>> store.make('/d')
>>> store.commit()
>>> store.remove('/d')
>>> store.commit()
>>> store.put('/f', [7])
>>> store.commit()
>>> [store.tree(), crashed_store(store, []).tree()]
[[('/f', (7,))], [('/f', ((),))]]

>>> from revokelog.crashes import crashed_store
>>> from revokelog.layouts import Layout
>>> from revokelog.stores import Store
>>> crashed_store(Store(Layout(8, 4)), [0])
raises BadChoice(at=0)

>>> from revokelog.crashes import crashed_store
>>> from revokelog.layouts import Layout
>>> from revokelog.stores import Store
>>> crashed_store(Store(Layout(8, 4)), [], many=99)
raises BadCount(count=99)
"""


def result_of(source, names):
    """What the last line gives, as the document shows it: a value's repr, an error, or nothing."""
    lines = parse(source).body
    try:
        for line in lines[:-1]:
            exec(compile(unparse(line), "example", "exec"), names)
        value = eval(compile(unparse(lines[-1]), "example", "eval"), names)
    except errors.LogError as error:
        fields = [f"{name}={getattr(error, name)!r}" for name in shown_fields(error)]
        return f"raises {type(error).__name__}" + (f"({', '.join(fields)})" if fields else "")
    return repr(value)


def shown_fields(error):
    """The fields of the error; why only where the document defines it."""
    if isinstance(error, errors.BadLayout) or (isinstance(error, errors.BadValue) and error.why == "header"):
        return ["why"]
    return [name for name in vars(error) if name != "why"]


class ExamplesTest(unittest.TestCase):
    def test_every_example(self):
        examples = EXAMPLES.strip().split("\n\n")
        self.assertEqual(len(examples), 51)
        for example in examples:
            *lines, expected = example.splitlines()
            with self.subTest(example):
                self.assertTrue(all(line.startswith(">>> ") for line in lines))
                self.assertEqual(result_of("\n".join(line[4:] for line in lines), {}), expected)


if __name__ == "__main__":
    unittest.main()
