import importlib
import inspect
import unittest

# Every name of the document's interface with its arguments, module by module.
FUNCTIONS = {
    "deeds": "is_deed(n, thing) did(row, word, a, b) began(row, a, b)",
    "clauses": "clause_of(condition) holds(condition, view, me, you)",
    "oaths": "is_condition(n, many, thing) world_of(n, oaths) in_force(oath, k) owed_by(world, duty) duties(n)",
    "looks": "looks(world, duty) ring(world) layers(world)",
    "reading": "made(world, row, broken, some) rounds(world, row, broken) reading(world, row, broken) "
               "sure_by(world, row, broken, duty)",
    "roads": "road(world, row, broken, duty) is_road(world, row, broken, steps)",
    "times": "breaches(world, row) waits(world, row) broken(world, row) read(world, row)",
    "keeping": "keep(world, row, a)",
    "faults": "faults(world, row) excused(world, row)",
    "falls": "fall(world, row) follows(world, row, deed) drawn(world, row) draws(world, row, a, deeds, most)",
    "known": "taken_out(world, j) known(world, a) leans(world, i, j) leaning(world, j) idle(world, j, rows)",
    "exchange": "exchanged(world, lands) exchanged_row(row, lands)",
    "texts": "show_world(world) read_world(text) show_row(row) read_row(world, text)",
}
CLASSES = {
    "clauses": "View(row, plain, turned, broken) Yes() Did(word, x, y) Began(x, y) Owes(duty, x, y) Broken(j) "
               "Among(x, lands) Not(c) And(c, d) Or(c, d) Some(lands, c)",
    "desk": "Desk(text)",
}
METHODS = {
    ("clauses", "Clause"): "holds(view, me, you) told()",
    ("desk", "Desk"): "say(row)",
}


def calls(text):
    """Tuples (name, list of arguments)."""
    for call in text.replace(") ", ")|").split("|"):
        name, arguments = call.rstrip(")").split("(")
        yield name, [one for one in arguments.split(", ") if one]


def arguments(thing):
    return list(inspect.signature(thing).parameters)


class Interface(unittest.TestCase):
    def module(self, name):
        return importlib.import_module("oathfall." + name)

    def test_functions(self):
        for name, text in FUNCTIONS.items():
            for function, told in calls(text):
                with self.subTest(module=name, function=function):
                    self.assertEqual(arguments(getattr(self.module(name), function)), told)

    def test_classes(self):
        for name, text in CLASSES.items():
            for one, told in calls(text):
                with self.subTest(module=name, one=one):
                    found = getattr(self.module(name), one)
                    self.assertIsInstance(found, type)
                    self.assertEqual(arguments(found) if told else [], told)

    def test_methods(self):
        for (name, one), text in METHODS.items():
            for method, told in calls(text):
                with self.subTest(one=one, method=method):
                    found = getattr(getattr(self.module(name), one), method)
                    self.assertEqual(arguments(found), ["self", *told])

    def test_each_kind_of_clause_stands_straight_under_clause(self):
        clauses = self.module("clauses")
        for one, told in calls(CLASSES["clauses"]):
            bases = (object,) if one == "View" else (clauses.Clause,)
            self.assertEqual(getattr(clauses, one).__bases__, bases)

    def test_words_and_duties(self):
        self.assertEqual(self.module("deeds").WORDS, ("strike", "pass", "warn", "call", "help", "refuse", "peace"))
        self.assertEqual(self.module("oaths").DUTIES, ("help", "spare", "shun"))


if __name__ == "__main__":
    unittest.main()
