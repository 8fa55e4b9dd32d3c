"""Each function and class that the document lists, in its file, with its arguments by places and by names."""

import importlib
import inspect
import unittest

FUNCTIONS = {
    "words": """is_whole(thing) is_among(thing,least,most) is_name(thing) number_of(word) signed_of(word)
        words_of(row)""",
    "fractions": """is_fraction(thing,*,most=None) fraction(top,bottom=1) plus(one,other) less(one,other)
        times(one,other) over(one,other) mean(one,other) is_under(one,other) compared(one,other) floor_of(one)
        total(some) range_of(some) in_order(some,*,twice=False) middles(some) fraction_text(one)
        read_fraction(word)""",
    "sayings": """need_sketch(points,sayings=()) need_places(places) coordinates_of(points) row_of(points,saying)
        saying_holds(places,saying)""",
    "solving": "solved(points,sayings) linked_groups(points,sayings) moved_square(points,places)",
    "clashes": """first_clash(points,sayings) clash_paper(points,sayings) check_clash(points,sayings,paper)""",
    "following": "word_beside(points,sayings,saying) fixed_at(points,sayings,name,axis) free_ways(points,sayings)",
    "sketchpaper": """near_paper(points,sayings) word_paper(points,sayings,saying) ways_paper(points,sayings)
        check_near(points,sayings,paper) check_word(points,sayings,saying,paper) check_ways(points,sayings,paper)""",
    "outlines": """need_loop(loop) is_fair(loop) loop_of(places,names) need_outline(places,names) edges_of(loop)
        turns_of(loop) plain_loop(loop) loop_area(loop) loop_length(loop)""",
    "sides": "side_of(loop,spot) side_paper(loop,spot) check_side(loop,spot,paper)",
    "meeting": "touching(loop) relation(loop,other)",
    "ground": "ground_of(loop)",
    "paving": "paving(loop) check_paving(loop,paper)",
    "bodies": """is_block(thing) need_block(block) need_features(block,features,places)
        lines_of(block,features,places) pieces_of(block,features,places) height_at(block,features,places,x,y)
        volume(block,features,places)""",
    "sections": "section(block,features,places,level)",
    "fieldpaper": """fields_of(block,features,places) field_paper(block,features,places)
        check_field(block,features,places,paper)""",
    "fields": """is_field(thing) need_field(field) sides_of(field) cell_of(field,cell) height_on(field,x,y)
        field_volume(field) crossed(target,least)""",
    "pockets": """pockets(field,level) meeting(field,one,other) meeting_paper(field,one,other)
        check_meeting(field,one,other,paper) flooded(field)""",
    "tools": """need_tools(tools) cells_under(field,tool,place) ring_of(field,tool,place) places_of(field,tool)
        places_over(field,tool,cell) may_stand(field,stock,tool,place,height) lowest(field,stock,tool,place)
        solid(field)""",
    "reach": """reached(field,tools) steady(field,tools) left(field,tools) useless(field,tools)
        fewest(field,tools)""",
    "reachpaper": "reach_paper(field,tools) check_reach(field,tools,paper)",
    "steps": "is_step(thing) first_state(field) is_state(field,thing) step_done(state,step,*,depth=2)",
    "ways": """gone(field,way,*,depth=2) left_by(field,way,*,depth=2) time_of(field,way,*,depth=2)
        is_fit(field,tools,way,*,depth=2) plain_way(field,tools,*,depth=2) made_way(field,tools,*,depth=2)""",
    "bounds": """must_take(field,tools) units(field,tools) low(field,tools,*,depth=2)
        low_paper(field,tools,*,depth=2) check_low(field,tools,paper,*,depth=2)""",
    "leastway": """is_small(field,tools) least_way(field,tools,*,depth=2) least_paper(field,tools,*,depth=2)
        check_least(field,tools,paper,*,depth=2)""",
    "waytext": "step_text(step) way_text(way) read_way(text)",
    "leanway": "lean_way(way) is_lean(way)",
    "judged": """words_at(target,reached,stock) balance(target,reached,stock) is_made(target,reached,stock)
        spoils(target,way,*,depth=2)""",
    "edits": "is_edit(thing) need_edit(thing)",
    "edittext": "saying_text(saying) edit_text(edit) read_saying(words) read_edit(words)",
    "drawingtext": "work_text(work) read_work(text)",
}
CLASSES = {
    ("ground", "Ground"): """__init__(rectangles=()) either(other) both(other) less(other) is_within(other)
        breach(other) has(spot) moved(by) slabs() rectangles() area() border() corner() islands() __eq__(other)
        __len__() __str__()""",
    ("stock", "Stock"): """__init__(field,tools) stand(tool,place,height) back() field() stands() is_reached()
        copied() __eq__(other) __len__()""",
    ("machine", "Machine"): """__init__(field,*,depth=2) do(step) run(steps) back() state() stock() time() taken()
        steps() marks() log() runs() busy() copied() __eq__(other) __len__() __str__()""",
    ("work", "Work"): """__init__(block,*,depth=2) do(edit) many(edits) put(name,x,y) settle() say(saying)
        unsay(number) renumber(number,to) draw(outline,height) erase(number) lift(number,height) take(side,length)
        lay(side,length) block() depth() points() sayings() features() tools() places() pieces() target() least()
        reach() way() thing() time() undo() redo() edits() log() busy() copied() __eq__(other) __len__()
        __str__()""",
    ("desk", "Desk"): "__init__() say(line) work()",
}
CONSTANTS = {
    "words": ("MOST_POINTS", "MOST_SAYINGS", "MOST_NUMBER", "MOST_RATIO", "MOST_PLACED", "MOST_UNDER", "MOST_RING",
              "MOST_SIDE", "MOST_HIGH", "MOST_FEATURES", "MOST_TOOLS", "MOST_TOOL", "MOST_LENGTH", "DEPTH"),
    "fractions": ("NOUGHT",),
    "sayings": ("AXES",),
    "edits": ("MOST_MANY", "EDITS"),
    "work": ("CHANGES",),
}


def file(name):
    return importlib.import_module(f"panelworks.{name}")


def told(name, signature):
    """A signature as the lists above have it."""
    return f"{name}{signature}".replace(" ", "").replace("(self,", "(").replace("(self)", "()")


class Interface(unittest.TestCase):
    def test_functions(self):
        for name, listed in FUNCTIONS.items():
            for one in listed.split():
                word = one.partition("(")[0]
                found = getattr(file(name), word)
                self.assertTrue(inspect.isfunction(found), one)
                self.assertEqual(found.__module__, f"panelworks.{name}", one)
                self.assertEqual(told(word, inspect.signature(found)), one)

    def test_classes(self):
        for (name, word), listed in CLASSES.items():
            found = getattr(file(name), word)
            self.assertTrue(inspect.isclass(found))
            self.assertEqual((found.__module__, found.__bases__), (f"panelworks.{name}", (object,)))
            for one in listed.split():
                method = one.partition("(")[0]
                # Each stands in the class itself.
                self.assertIn(method, vars(found), one)
                self.assertEqual(told(method, inspect.signature(vars(found)[method])), one)

    def test_constants(self):
        for name, words in CONSTANTS.items():
            for word in words:
                self.assertTrue(hasattr(file(name), word), word)


if __name__ == "__main__":
    unittest.main()
