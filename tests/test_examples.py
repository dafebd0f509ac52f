"""The examples of the document, all of them, in its order."""

import doctest
import unittest

EXAMPLES = r"""
    >>> from lineturns.deciding import happens, least
    >>> from lineturns.rules import Rule
    >>> from lineturns.waiting import growth, waits
    >>> fair = Rule.read("first run\nrun past on run\nrun all on run")
    >>> fixed = Rule.read("first run\nrun all stay run")
    >>> happens(fair, "endless"), waits(fair, 5), growth(fair)
    (False, 4, (1, 1))
    >>> happens(fixed, "endless"), least(fixed, "endless"), waits(fixed, 1), waits(fixed, 2)
    (True, 2, 0, None)

    >>> from lineturns.rounds import play
    >>> played = play(fair, 3, [(0, 2), [2, 0], [1, 2], []])
    >>> played.grants, played.done, played.pointers, played.faults
    (((0,), (2,), (1,), ()), (0, 0, 1, None), (None, 0, 2, 1, 1), ())

    >>> from lineturns.deciding import faults, history, ring_holds
    >>> blind = Rule.read("first run\nrun past on run")
    >>> double = Rule.read("first run\nrun keep on run\nrun past on run also\nrun all on run")
    >>> faults(blind), history(blind, "none"), faults(double), least(double, "two")
    (('endless', 'none'), (1, ((0,), (0,))), ('endless', 'two'), 2)
    >>> ring_holds(fixed, (2, 1, (), ((0, 1),))), ring_holds(fixed, (2, 1, (), ((1,),)))
    (True, False)

    >>> from lineturns.waiting import least_worse
    >>> weighted = Rule.read("first one\none keep stay two\none past on one\none all on one\ntwo past on one\ntwo all on one")
    >>> growth(weighted), waits(weighted, 4), least_worse(fair, weighted, 6), least_worse(weighted, fair, 6)
    ((2, 1), 6, 2, None)

    >>> from lineturns.papers import paper, paper_holds
    >>> told = (("run", "home", 1, "up", 0), ("run", "low", 0, "up", 0), ("run", "here", 3, "up", 0), ("run", "high", 2, "up", 0))
    >>> paper_holds(fair, told), paper_holds(fair, told[:3]), paper(fixed)
    (True, False, None)

    >>> from lineturns.comparing import alike, kin, least_parting, merged
    >>> twin = Rule.read("first one\none past on two\none all on two\ntwo past on one\ntwo all on one")
    >>> alike(fair, twin), kin(twin), str(merged(twin)).split("\n")
    (True, (('one', 'two'),), ['first one', 'one past on one', 'one all on one'])
    >>> len(least_parting(fair, fixed)[1]), fair(2, [[0], [0, 1]]), fixed(2, [[0], [0, 1]])
    (2, ((0,), (1,)), ((0,), (0,)))

    >>> from lineturns.levels import levels, play_levels
    >>> play_levels(fair, fixed, 2, 2, [[(0, 1), (1, 0), (1, 1)], [(0, 1), (1, 1)], [(0, 0), (0, 1)]])
    (((0, 1),), ((1, 1),), ((0, 0),))
    >>> levels(fair, fair, 3, 2), levels(fair, fixed, 3, 1), levels(fair, fixed, 3, 2)
    (5, 2, None)

    >>> from lineturns.desk import Desk
    >>> desk = Desk()
    >>> desk.say("line 3"), desk.say("rule first run ; run past on run ; run all on run"), desk.say("ask 0 2"), desk.say("ask 2 0"), desk.say("ask")
    ('3', '2', '0', '2', 'nobody')
    >>> desk.say("waits 5"), desk.say("grows"), desk.say("faults"), desk.say("undo")
    ('4', '1 in 1', 'never', 'undone')
"""


class ExamplesTest(unittest.TestCase):
    def test_the_document(self):
        test = doctest.DocTestParser().get_doctest(EXAMPLES, {}, "examples", None, 0)
        told = doctest.DocTestRunner().run(test)
        self.assertEqual((told.failed, told.attempted), (0, 32))


if __name__ == "__main__":
    unittest.main()
