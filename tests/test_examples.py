"""The examples of the document, word for word.

>>> from rimcords.lots import Lot
>>> Lot(4, [(2, 0, 1), (1, 3, 2), (0, 2, 1)]).cords
((0, 2, 2), (1, 3, 2))
>>> Lot(3, [(0, 1, 1)]).table
((0, 1, 1), (1, 0, 0), (1, 0, 0))
>>> Lot(3, [(0, 1, 1), (1, 2, 1)]).dropped(1).cords
((0, 1, 1),)
>>> Lot(4, [(0, 1, 1), (2, 3, 1)]) in Lot(4, [(0, 2, 1), (1, 3, 1)])
True
>>> from rimcords.tables import bar
>>> bar(Lot(4, [(0, 1, 1), (2, 3, 1)]), Lot(4, [(0, 2, 1), (1, 3, 1)]))
(1, 3)
>>> from rimcords.moves import moves
>>> list(moves(Lot(4, [(0, 2, 1), (1, 3, 1)])))
[(0, 2, 1, 3), (0, 2, 3, 1)]
>>> from rimcords.boards import Board
>>> Board(2, ((0,), (1,)), (1,)).lands
((-1, 0), (-2, 1))
>>> star = Board(4, ((0,), (2,), (4,), (6,), (1, 3, 5, 7)), (1, 1, 1, 1))
>>> from rimcords.cords import cords
>>> cords(star).cords
((0, 2, 1), (1, 3, 1))
>>> from rimcords.laying import lay
>>> lay(Board(2, ((0,), (1,)), (1,)), Lot(2, [(0, 1, 3)]))
Traceback (most recent call last):
rimcords.errors.Barred: first 0, last 1, held 1, wished 3
>>> from rimcords.rows import Row
>>> Row(2, [("cross", 0), ("cross", 0)]).pairing.cords
((0, 2, 1), (1, 3, 1))
>>> from rimcords.lotnotes import format_lot
>>> format_lot(Lot(4, [(0, 2, 2), (1, 3, 1)]))
'lot 4\\n0 2 2\\n1 3 1'

The one in the text of [5]:

>>> from rimcords.rims import arc
>>> arc(5, 3, 1)
(4, 0, 1)
"""

import builtins
import doctest
import sys
import unittest


class Examples(unittest.TestCase):

    def test_examples(self):
        found = doctest.testmod(sys.modules[__name__])
        # The run keeps the last value that it has shown under this name.
        vars(builtins).pop("_", None)
        self.assertEqual(0, found.failed)
        self.assertGreater(found.attempted, 20)
