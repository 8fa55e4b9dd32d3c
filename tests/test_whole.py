"""From a drawing to the made thing, through all parts of the program."""

import random
import unittest

from panelworks.bodies import need_features, volume
from panelworks.bounds import check_low, low, low_paper
from panelworks.desk import Desk
from panelworks.drawingtext import read_work, work_text
from panelworks.edittext import edit_text
from panelworks.errors import Nothing
from panelworks.fieldpaper import check_field, field_paper
from panelworks.fields import crossed, field_volume
from panelworks.fractions import total
from panelworks.judged import balance, is_made, spoils
from panelworks.leanway import lean_way
from panelworks.machine import Machine
from panelworks.reachpaper import check_reach, reach_paper
from panelworks.sections import section
from panelworks.sketchpaper import check_near, near_paper
from panelworks.ways import is_fit, left_by, plain_way, time_of
from panelworks.waytext import read_way, way_text

from tests.drafting import work_from
from tests.helpers import plain, refusal


class Whole(unittest.TestCase):
    def works(self, seed, many=30):
        chance = random.Random(seed)
        return [work_from(chance, chance.randint(5, 25))[0] for _ in range(many)]

    def test_the_text_of_a_way_is_walked(self):
        walked = 0
        for work in self.works(411, 60):
            target, depth = work.target(), work.depth()
            way = read_way(way_text(work.way()))
            walked += len(way) > 0
            self.assertEqual(way, work.way())
            self.assertIs(is_fit(target, work.tools(), way, depth=depth), True)
            machine = Machine(target, depth=depth)
            self.assertEqual(machine.run(way), len(way))
            self.assertEqual((machine.stock(), machine.time()), (work.thing(), work.time()))
            self.assertEqual(work.thing(), work.reach())
            self.assertIsNone(spoils(target, way, depth=depth))
            self.assertIs(is_made(target, work.reach(), work.thing()), True)
            lean = lean_way(way)
            self.assertEqual(left_by(target, lean, depth=depth), work.thing())
            self.assertLessEqual(time_of(target, lean, depth=depth), work.time())
            plainest = plain_way(target, work.tools(), depth=depth)
            self.assertLessEqual(work.time(), time_of(target, plainest, depth=depth))
        self.assertGreater(walked, 15)

    def test_papers(self):
        for work in self.works(412):
            sketch = (work.points(), work.sayings())
            self.assertEqual(check_near(*sketch, near_paper(*sketch)), work.places())
            body = (work.block(), work.features(), work.places())
            need_features(*body)
            self.assertEqual(check_field(*body, field_paper(*body)), (work.target(), work.least()))
            target, tools, depth = work.target(), work.tools(), work.depth()
            self.assertEqual(check_reach(target, tools, reach_paper(target, tools)), work.reach())
            bound = check_low(target, tools, low_paper(target, tools, depth=depth), depth=depth)
            self.assertEqual(bound, low(target, tools, depth=depth))
            self.assertLessEqual(bound, work.time())

    def test_volumes(self):
        agreed = 0
        for work in self.works(413):
            body = (work.block(), work.features(), work.places())
            whole = volume(*body)
            pieces = [[plain(one) for one in piece[:4]] + [piece[4]] for piece in work.pieces()]
            self.assertEqual(plain(whole), sum((x1 - x0) * (y1 - y0) * height for x0, y0, x1, y1, height in pieces))
            levels = [section(*body, level)[0] for level in range(work.block()[2])]
            self.assertEqual(total(levels), whole)
            least, most = field_volume(work.least()), field_volume(work.target())
            self.assertLessEqual(least, plain(whole))
            self.assertLessEqual(plain(whole), most)
            if not crossed(work.target(), work.least()):
                self.assertEqual((whole, least), ((most, 1), most))
                agreed += len(work.features()) > 0
            off = sum(levels for _, levels in balance(work.target(), work.reach(), work.thing()).values())
            self.assertEqual(field_volume(work.thing()), most + off)
        self.assertGreater(agreed, 3)

    def told(self, work):
        drawn = (work.block(), work.depth(), work.points(), work.sayings(), work.features(), work.tools())
        made = (work.places(), work.pieces(), work.target(), work.least(), work.reach(), work.way(), work.thing())
        return drawn, made, work.time(), work_text(work)

    def test_undone_all_the_way_and_done_again(self):
        for work in self.works(414, 12):
            edits, behind = work.edits(), self.told(work)
            states = [behind]
            while len(work):
                self.assertEqual(work.undo(), edits[len(work)])
                states.append(self.told(work))
            refusal(self, Nothing, work.undo)
            self.assertEqual((work.points(), work.sayings(), work.features(), work.tools()), ((), (), (), ()))
            for edit in edits:
                states.pop()
                self.assertEqual(work.redo(), edit)
                self.assertEqual(self.told(work), states[-1])
            refusal(self, Nothing, work.redo)
            self.assertEqual(self.told(work), behind)

    def test_by_a_desk(self):
        for work in self.works(415, 15):
            desk = Desk()
            wide, long, high = work.block()
            self.assertEqual(desk.say(f"work {wide} {long} {high} {work.depth()}"), "done")
            answers = [told for word, told in work.log() if word == "done"]
            for edit, changed in zip(work.edits(), answers):
                self.assertEqual(desk.say(edit_text(edit)), " ".join(("done",) + changed))
            self.assertTrue(desk.work() == work)
            self.assertEqual(self.told(desk.work()), self.told(work))
            text = desk.say("text")
            self.assertEqual(text, work_text(work).replace("\n", " ; "))
            self.assertEqual(Desk().say(text), "done")
            self.assertTrue(read_work(text.replace(" ; ", "\n")) == work)
            way = desk.say("way")
            self.assertEqual(read_way("" if way == "none" else way.replace(" ; ", "\n")), work.way())


if __name__ == "__main__":
    unittest.main()
