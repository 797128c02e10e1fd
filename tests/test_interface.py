"""The interface: what it lists is there, in its file, under its names, and is called as it says."""

import importlib
import inspect
import unittest

# For each module its functions, and its classes with their methods, as the interface lists them; properties are bare.
INTERFACE = {
    "texts": "is_name(value) is_text(value) is_line(value) line_text(line) read_line(text) is_round(value)",
    "trees": "neighbours(tree,house) way(tree,a,b) on_way(tree,a,b,house) side(tree,u,v) read_tree(text) foot(tree,a,b,house)",
    "networks": "is_script(tree,value) run_network(tree,names,script=()) finish(network)",
    "runs": "script_behind(tree,names,rows)",
    "founds": "is_founds(value) found(network,house,many) common(founds) is_whole(founds) cut_back(founds,counts) goes_on(founds,later)",
    "arrows": "turned(founds,i,j) arrows(founds,i,j) ring(founds,i,j) row(founds,i,j) roads_between(founds,i,j) why_row(founds,i,j,names) "
              "is_why_row(founds,i,j,names,value)",
    "two": "two_fit(founds) two_picture(founds) is_two_picture(founds,value) two_roads(founds) why_two_roads(founds) is_why_two_roads(founds,value)",
    "twonets": "two_network(founds) is_two_network(founds,value)",
    "twofar": "two_far(founds,reader,name) two_nearer(founds,first,second)",
    "cuts": "cuts(founds) cross(founds) is_cross(founds,value) is_map(value,readers) comes_of(rough,fine,readers)",
    "places": "map_of(founds) places(drawn,readers) ways(drawn,readers) roads_of(drawn,readers,i,j) least_way(founds,i,j) of_readers(founds,lot)",
    "truth": "true_map(tree,names,seats) meets(tree,seats)",
    "pictures": "picture(founds) is_picture(founds,value) fits(founds)",
    "rows": "place_rows(founds) steps(founds,lot) between(founds,lot)",
    "drawing": "drawing(founds) is_behind(founds,value) is_drawing(founds,value)",
    "fewest": "part(founds,name) fewest(founds) why_no_fewer(founds) is_why_no_fewer(founds,value)",
    "far": "far(founds,reader,name) why_far(founds,reader,name) is_why_far(founds,reader,name,value) surely_apart(founds,lot,first,second)",
    "rounds": "hear(network,u,v) spread(network) of_round(founds,text) round_map(founds,text) told_all(founds,text) names_between(founds,i,j,text)",
    "desk": "answer(network,house,start=0,*,most=40)",
    "faults": "fault(founds) is_fault(founds,value) culprits(founds)",
    "slow": "tables(tree,writers) least_slow(founds) two_slow(founds)",
    "drawn": "draw(founds)",
    "papers": "backing(founds) is_backing(founds,drawn,value)",
    "findtexts": "founds_text(founds) read_founds(text) map_text(drawn,readers) read_map(text,readers)",
    "files": "file_of(lines) read_file(signs)",
    "watch": "gather(watch)",
}
CLASSES = {
    ("trees", "Tree"): "__init__(self,houses,roads) __len__(self) __contains__(self,value) __eq__(self,other) line(self)",
    ("networks", "Network"): "__init__(self,tree,names) make(self,house,text) hand(self,u,v) lose(self,u,v) stop(self,house) log(self,house) "
                             "under_way(self,u,v) stopped script",
    ("desk", "Desk"): "__init__(self,owns) owns come(self,reader,start,lines) founds(self) map(self) asks(self) news(self)",
    ("watch", "Watch"): "__init__(self,network,seats) ask(self,reader) bring(self,k) drop(self,k) double(self,k) letters founds(self) map(self)",
}


def called_as(name, call):
    return name + str(inspect.signature(call)).replace(" ", "")


class TestInterface(unittest.TestCase):
    def test_functions(self):
        for module, listed in INTERFACE.items():
            file = importlib.import_module("maplost." + module)
            for shown in listed.split():
                name = shown.partition("(")[0]
                call = getattr(file, name)
                self.assertTrue(inspect.isfunction(call), shown)
                self.assertEqual([called_as(name, call), call.__module__], [shown, file.__name__])

    def test_classes(self):
        for (module, kind), listed in CLASSES.items():
            file = importlib.import_module("maplost." + module)
            made = getattr(file, kind)
            self.assertEqual([inspect.isclass(made), made.__module__, made.__bases__], [True, file.__name__, (object,)])
            for shown in listed.split():
                name, sign, _ = shown.partition("(")
                self.assertIn(name, vars(made))
                if sign:
                    self.assertEqual(called_as(name, vars(made)[name]), shown)
                else:
                    self.assertIsInstance(vars(made)[name], property)

    def test_every_module_has_its_examples(self):
        self.assertEqual(len(INTERFACE), 26)
