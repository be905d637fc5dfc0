"""The examples of the interface, exactly as written."""

import doctest
import unittest

from streetpapers.errors import BadLine
from streetpapers.planners import read_plan

EXAMPLES = {
    "tables": '''
>>> from streetpapers.tables import read_table, write_table
>>> [read_table("1r0 0l0"), write_table((((0, 2, 1), None), ((1, 0, 0), (1, 1, 1))))]
[(((1, 1, 0), (0, 3, 0)),), '0b1 - / 1a0 1r1']
''',
    "floors": '''
>>> from streetpapers.floors import box, read_floor, turned, write_floor
>>> floor = read_floor(".2a//b")
>>> [floor, turned(floor, 1), box(floor), write_floor(((5, 5, 1), (6, 5, 1)))]
[((0, 2, 2), (1, 0, 1), (2, 0, 1)), ((-2, 0, 2), (0, 1, 1), (0, 2, 1)), (0, 0, 2, 2), ('2a', (5, 5))]
''',
    "walks": '''
>>> from streetpapers.walks import step, walk
>>> table = (((1, 1, 0), (0, 3, 0)),)
>>> [step(table, (), (0, 0, 0, 0)), walk(table, (), (0, 0, 0, 0), 5)]
[(((0, 0, 1),), (1, 0, 1, 0)), (((0, 1, 1), (1, 0, 1), (1, 1, 1)), (-1, 0, 3, 0), 5)]
''',
    "backs": '''
>>> from streetpapers.backs import back, can_be_undone
>>> table = (((1, 1, 0), (0, 3, 0)),)
>>> [can_be_undone(table), back(table, ((0, 0, 1),), (1, 0, 1, 0), 1), can_be_undone((((1, 1, 0), (1, 3, 0)),))]
[True, ((), (0, 0, 0, 0)), False]
''',
    "papers": '''
>>> from streetpapers.papers import move_of, shows_paper
>>> table, walker = (((1, 1, 0), (2, 1, 0), (0, 3, 0)),), (0, 0, 0, 0)
>>> paper = ("street", 39, 18)
>>> [shows_paper(table, (), walker, paper), shows_paper(table, (), walker, ("street", 38, 18)), move_of(table, (), walker, paper)]
[True, False, (1, 1)]
''',
    "finders": '''
>>> from streetpapers.finders import find_paper, soonest
>>> [soonest((((1, 1, 0), (2, 1, 0), (0, 3, 0)),), (), (0, 0, 0, 0), ("street", 100, 18)), find_paper(((None, (0, 0, 0)),), ((0, 0, 1),), (0, 0, 1, 0), 50, 5)]
[('street', 39, 18), ('stops', 1)]
''',
    "corners": '''
>>> from streetpapers.corners import bound_stand, colour_rounds, never_bounded
>>> table = (((1, 1, 0), (0, 3, 0), (2, 1, 0)),)
>>> [colour_rounds(table), never_bounded(table), bound_stand(table)]
[((0, 1), (2,)), False, (((0, 0, 2), (0, 1, 2), (1, 0, 2), (1, 1, 2)), (0, 0, 0, 0))]
''',
    "kin": '''
>>> from streetpapers.kin import asked, kin_count
>>> table = (((1, 1, 0), (0, 3, 0)),)
>>> [asked(table, (), (0, 0, 0, 0), 4), asked(table, (), (0, 0, 0, 0), 5), kin_count(table, (), (0, 0, 0, 0), 4)]
[((0, 0),), ((0, 0), (0, 1)), 9]
''',
    "rings": '''
>>> from streetpapers.rings import ring_life, ring_walk
>>> table = (((1, 1, 0), (0, 3, 0)),)
>>> [ring_walk(table, (), (0, 0, 0, 0), 2, 2, 3), ring_life(((None, (0, 0, 0)),), ((0, 0, 1),), (0, 0, 1, 0), 3, 3)]
[(((0, 0, 1), (1, 0, 1), (1, 1, 1)), (0, 1, 3, 0), 3), (1, 0)]
''',
    "teams": '''
>>> from streetpapers.teams import never_cross, team_walk
>>> table = (((0, 0, 0), (0, 0, 0)),)
>>> walkers = ((0, 0, 1, 0), (5, 5, 0, 0))
>>> papers = (("street", 0, 1), ("street", 0, 1))
>>> [team_walk(table, (), walkers, 3)[1], never_cross(table, (), walkers, papers)]
[((3, 0, 1, 0), (5, 2, 0, 0)), False]
''',
    "census": '''
>>> from streetpapers.census import census, count_never_bounded
>>> [count_never_bounded(3), census(2, 200, 20)[0], census(2, 200, 20)[1]]
[6, ('1r0 0r0', ('round', 0, 8)), ('1r0 0l0', None)]
''',
    "notes": '''
>>> from streetpapers.notes import read_paper, read_walker, write_paper, write_walker
>>> [write_paper(("street", 39, 18)), read_paper("stops 5"), write_walker((0, -2, 3, 1)), read_walker("0 -2 3 1")]
['street 39 18', ('stops', 5), '0 -2 3 1', (0, -2, 3, 1)]
''',
    "trails": '''
>>> from streetpapers.trails import Trail, read_trail
>>> table = (((1, 1, 0), (0, 3, 0)),)
>>> trail = Trail(table, (), (0, 0, 0, 0))
>>> trail.go_on(5)
>>> [trail.visits((0, 0)), trail.floor_at(1), trail.write(), read_trail(table, trail.write()).walker_at(5)]
[(0, 4), ((0, 0, 1),), '5 0 0 0 0 0 0 ', (-1, 0, 3, 0)]
''',
    "sessions": '''
>>> from streetpapers.sessions import Session
>>> session = Session((((1, 1, 0), (2, 1, 0), (0, 3, 0)),))
>>> paper = session.know(500, 50)
>>> session.go(39 + 18 * 10 ** 30)
>>> [paper[0], paper[2], session.walker()[0] - session.walker()[1], session.steps() == 39 + 18 * 10 ** 30]
['street', 18, -3, True]
''',
    "desk": '''
>>> from streetpapers.desk import run
>>> run("1r0 0l0", ("go 4", "walker", "painted", "colour 0 0", "undo", "steps", "go"))
('done', '0 0 0 0', '4', '1', 'done', '0', 'refused')
''',
    "firsts": '''
>>> from streetpapers.firsts import first_stood, painted_box, times_stood
>>> table, paper = (((0, 0, 0), (0, 1, 0)),), ("street", 3, 1)
>>> stand = (((2, 0, 1),), (0, 0, 1, 0))
>>> [first_stood(table, stand[0], stand[1], paper, (2, 10 ** 30)), times_stood(table, stand[0], stand[1], paper, 50, (1, 0)), painted_box(table, stand[0], stand[1], paper, 2)]
[1000000000000000000000000000002, 1, (2, 0, 2, 0)]
''',
    "likes": '''
>>> from streetpapers.likes import first_unlike, what_matters
>>> table, paper = (((0, 0, 0), (0, 1, 0)),), ("street", 0, 1)
>>> [first_unlike(table, (), (0, 0, 1, 0), paper, ((7, 0, 1),)), first_unlike(table, (), (0, 0, 1, 0), paper, ((7, 1, 1),)), what_matters(table, (), (0, 0, 1, 0), paper, (-1, 0), (1, 1))]
[7, None, (((0, 0), 0), ((1, 0), 1))]
''',
    "grounds": '''
>>> from streetpapers.grounds import ground_walk, ground_walker_at, shows_ground_street
>>> table, ground = (((0, 1, 0), (1, 3, 0)),), ((0, 1), (1, 0))
>>> [ground_walk(table, ground, (), (0, 0, 0, 0), 4), shows_ground_street(table, ground, (), (0, 0, 0, 0), 0, 2), ground_walker_at(table, ground, (), (0, 0, 0, 0), 0, 2, 10 ** 20)]
[((), (2, -2, 0, 0), 4), True, (50000000000000000000, -50000000000000000000, 0, 0)]
''',
    "mirrors": '''
>>> from streetpapers.mirrors import is_own_mirror, mirrored, mirrored_table, mirrored_walker
>>> table = (((1, 1, 0), (0, 3, 0)),)
>>> [mirrored_table(table), mirrored(((1, 0, 2),)), mirrored_walker(table, (3, 4, 1, 0)), is_own_mirror((((0, 2, 0), (1, 0, 0)),))]
[(((1, 3, 0), (0, 1, 0)),), ((-1, 0, 2),), (-3, 4, 3, 0), True]
''',
    "tapes": '''
>>> from streetpapers.tapes import tape_by_walker, tape_run, walker_table
>>> machine = (((1, 1, 1), (1, -1, 1)), ((1, -1, 0), None))
>>> [tape_run(machine, (), 0, 0, 100), tape_by_walker(machine, (), 0, 0, 100), walker_table((((1, -1, 0), None),))]
[(((-2, 1), (-1, 1), (0, 1), (1, 1)), -1, 1, 5), (((-2, 1), (-1, 1), (0, 1), (1, 1)), -1, 1, 5), (((1, 2, 1), None), ((1, 0, 1), None))]
''',
    "catalogue": '''
>>> from streetpapers.catalogue import catalogue
>>> [catalogue((((0, 0, 0), None),), 1, 1, 40, 3), sum([many for kind, many in catalogue((((1, 1, 0), (0, 3, 0)),), 2, 2, 60, 5)])]
[((('stops',), 1), (('street', 1, (1, 0)), 1)), 16]
''',
    "plans": '''
>>> from streetpapers.plans import play_plan, table_of, write_plan
>>> plan = (2, (("forever", (("if", 0, (("paint", 1), ("turn", 1)), (("paint", 0), ("turn", 3))), ("step",))),))
>>> [table_of(plan), play_plan(plan, (), 0, 0, 0, 5), write_plan(plan)]
[(((1, 1, 0), (0, 3, 0)),), (((0, 1, 1), (1, 0, 1), (1, 1, 1)), (-1, 0, 3), 5), 'colours 2\\nforever\\nif 0\\npaint 1\\nturn right\\nelse\\npaint 0\\nturn left\\nend\\nstep\\nend']
''',
    "planners": '''
>>> from streetpapers.planners import read_plan
>>> read_plan("colours 3\\nrepeat 2\\nstep\\nend\\nwhile 0\\nstep\\nend")
(3, (('repeat', 2, (('step',),)), ('while', 0, (('step',),))))
''',
}


class ExamplesTest(unittest.TestCase):
    def test_each_example(self):
        for name in EXAMPLES:
            with self.subTest(name):
                example = doctest.DocTestParser().get_doctest(EXAMPLES[name], {}, name, None, 0)
                told = []
                result = doctest.DocTestRunner(verbose=False).run(example, out=told.append)
                self.assertEqual((result.failed, result.attempted > 1), (0, True), "".join(told))

    def test_the_example_of_an_error(self):
        with self.assertRaises(BadLine) as caught:
            read_plan("colours 2\npaint 2")
        self.assertEqual((caught.exception.line, caught.exception.word), (2, 2))


if __name__ == "__main__":
    unittest.main()
