"""The interface: names, arguments, and the file in which each stands."""

import importlib
import inspect
import unittest

FUNCTIONS = {
    "rules": ["fault(web)", "is_home(web)", "least_web(house, kind)", "reached_kinds(house)", "home_web(house, kind)"],
    "webtext": ["house_text(house)", "web_text(web)", "read_house(text)", "read_web(house, text)"],
    "clients": ["check(client)", "needed(client)", "cut(client, line)", "client_text(client)", "read_client(text)"],
    "clientrun": ["run(client, web)", "first_difference(client, first, second)"],
    "refine": ["sight(web, thing)", "classes(web)", "folded(web)"],
    "matching": ["walked_pairs(first, second, manners)", "is_movable(web, thing, manners)",
                 "matching(first, second, manners)", "alike(first, second, manners)", "twinned(web, thing, step)"],
    "parting": ["parting(first, second, manners)", "parting_lines(first, second, manners)"],
    "alikejudge": ["matching_fault(first, second, manners, pairs)", "parting_fault(first, second, manners, client)"],
    "memos": ["memo_key(rule, thing, kind, marks)"],
    "events": ["entries(events)", "most_open(events)", "walk_events(heap, travel)",
               "walk_fault(heap, travel, events)", "written(events)", "read_events(text)"],
    "saved": ["saved(web, *, named=())", "sent(travel, web)"],
    "reading": ["read_saved(house, text, *, known=None)", "brought(travel, text, known)"],
    "editions": ["source_field(writer, reader, kind, field)", "reader_fault(writer, reader)", "led(web, reader)"],
}
CLASSES = {
    "kinds": {
        "Field(name, mode, *, target=None, default=0, was=())": ["__eq__(self, other)"],
        "Kind(name, fields, *, base=None, frozen=False, heirs=False, key=None, registered=False)":
            ["__eq__(self, other)"],
        "House(root, kinds)": [
            "__len__(self)", "__contains__(self, x)", "__eq__(self, other)", "kind_named(self, kind)",
            "fields_of(self, kind)", "field_of(self, kind, name)", "marks_of(self, kind)", "slots_of(self, kind)",
            "lets_heirs(self, kind)", "is_frozen(self, kind)", "is_registered(self, kind)", "is_leaf(self, kind)",
            "is_movable(self, kind)", "key_of(self, kind)", "heirs_of(self, kind)", "admitted(self, target)",
            "admits(self, target, kind)", "leads(self, kind)", "leads_far(self, kind)",
            "with_kinds(self, kinds, *, root=None)"],
    },
    "webs": {
        "Web(house, things, *, here=0, old=None)": [
            "__len__(self)", "__contains__(self, x)", "__eq__(self, other)", "__getitem__(self, at)",
            "kind_of(self, thing)", "things(self)", "steps(self, thing)", "follow(self, thing, step)",
            "thing_at(self, way, *, start=None)", "reached(self, *, both=False)", "trimmed(self)",
            "with_value(self, thing, field, value)", "rooted(self, here, *, old=None)", "ways(self, most)"],
    },
    "manners": {
        "Manners(*names)": ["__len__(self)", "__contains__(self, x)", "__eq__(self, other)", "__or__(self, other)",
                            "within(self, other)", "every()"],
    },
    "clientrun": {
        "Session(web)": ["do(self, line)", "tried(self, lines)", "holds(self, name)", "held_names(self)",
                         "web_now(self)"],
    },
    "refine": {
        "Ranks(first, second)": ["__getitem__(self, at)", "__contains__(self, x)", "__len__(self)", "__iter__(self)",
                                 "most(self)", "of_rank(self, rank)"],
    },
    "travels": {
        "Travel(source, *, fates=None, rules=None, unheard=None, reader=None)": [
            "__eq__(self, other)", "fate(self, kind, field)", "rule(self, kind)", "unheard(self, kind)",
            "table(self)", "changed(self, kind, field, value)"],
    },
    "memos": {
        "Memo(number)": ["__len__(self)", "__contains__(self, x)", "known(self, key)", "keep(self, key, new)",
                         "kept(self)"],
    },
    "walk": {
        "Heap(web)": [
            "__len__(self)", "__contains__(self, x)", "__getitem__(self, at)", "kind_of(self, n)",
            "value_of(self, n, field)", "origin_of(self, n)", "memo_of(self, n)", "travel_of(self, n)",
            "house_of(self, n)", "descent(self, n)", "home_thing(self, kind, key)", "copied(self)"],
        "Walk(heap, travel)": ["step(self)", "finish(self)", "told(self)", "give_up(self)"],
    },
    "registers": {
        "Register(web)": ["__contains__(self, x)", "__len__(self)", "__iter__(self)", "values_of(self, kind, key)"],
    },
    "rows": {
        "Row(travels)": ["__len__(self)", "__iter__(self)", "__getitem__(self, at)", "__eq__(self, other)",
                         "__rshift__(self, other)", "houses(self)", "cut(self, k)"],
    },
}


class TestInterface(unittest.TestCase):
    def check(self, owner, described, module):
        name = described.split("(")[0]
        found = vars(owner)[name]
        self.assertEqual(found.__module__, module)
        self.assertEqual(name + str(inspect.signature(found)), described)

    def test_functions(self):
        for name, functions in FUNCTIONS.items():
            module = importlib.import_module("waypairs." + name)
            for described in functions:
                self.check(module, described, module.__name__)

    def test_classes(self):
        for name, classes in CLASSES.items():
            module = importlib.import_module("waypairs." + name)
            for described, methods in classes.items():
                self.check(module, described, module.__name__)
                for method in methods:
                    one = getattr(module, described.split("(")[0])
                    self.assertIn(method.split("(")[0], vars(one))
                    if method == "every()":
                        self.assertIsInstance(vars(one)["every"], staticmethod)
                    else:
                        self.check(one, method, module.__name__)


if __name__ == "__main__":
    unittest.main()
