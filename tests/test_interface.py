"""The interface: names, arguments, and the file in which each stands."""

import importlib
import inspect
import unittest

FUNCTIONS = {
    "rules": ["fault(web)", "is_home(web)", "least_web(house, kind)", "reached_kinds(house)", "home_web(house, kind)"],
    "webtext": ["house_text(house)", "web_text(web)", "read_house(text)", "read_web(house, text)"],
    "clients": ["check(client)", "needed(client)", "cut(client, line)", "client_text(client)", "read_client(text)"],
    "clientrun": ["run(client, web)", "first_difference(client, first, second)"],
    "refine": ["sight(web, thing)", "classes(web)", "folded(web)"],
    "matching": ["walked_pairs(first, second, manners)", "is_movable(web, thing, manners)",
                 "matching(first, second, manners)", "alike(first, second, manners)", "twinned(web, thing, step)"],
    "parting": ["parting(first, second, manners)", "parting_lines(first, second, manners)"],
    "alikejudge": ["matching_fault(first, second, manners, pairs)", "parting_fault(first, second, manners, client)"],
    "memos": ["memo_key(rule, thing, kind, marks)"],
    "events": ["entries(events)", "most_open(events)", "walk_events(heap, travel)",
               "walk_fault(heap, travel, events)", "written(events)", "read_events(text)"],
    "saved": ["saved(web, *, named=())", "sent(travel, web)"],
    "reading": ["read_saved(house, text, *, known=None)", "brought(travel, text, known)"],
    "fieldtables": ["slots(row, kind, field)", "astray(row, kind, field)", "kept_fields(row, kind)",
                    "fate_at(row, travel, kind, field)"],
    "journeys": ["journey(row, web)", "ideal(web)"],
    "rowrings": ["ring_of(lens)", "ring_web(lens, ring)"],
    "meetings": ["alone(fates, made, others, memos)", "together(fates, made, others, memos, same)",
                 "meeting(rules, made, others, memos, *, same=None, home=True)"],
    "standings": ["steps(lens, standing)", "told_by(lens, standing)", "fault(lens, standing)"],
    "editions": ["source_field(writer, reader, kind, field)", "reader_fault(writer, reader)", "led(web, reader)"],
    "verdicts": ["judge(row)"],
    "leastweb": ["made_example(lens, closure, standing, manners)"],
    "entrygraph": ["copied_steps(travel, kind, *, going=False)"],
    "rings": ["ranks_of(travel)", "ranks_fault(travel, ranks)", "shortest_ring(travel)", "ring_fault(travel, found)",
              "web_of_ring(travel, found)"],
    "growth": ["most_entries(travel, size)", "growth_fault(travel, table)"],
    "family": ["family(travel, many)"],
    "pairjudge": ["closed_fault(row, table)", "quiet_fault(row, table, manners)", "cost_bound(row, table, manners)"],
    "comparers": ["comparer_text(comparer)", "read_comparer(house, text)"],
    "comparing": ["compare(comparer, first, second, *, most=2000)"],
    "comparejudge": ["met_kinds(comparer)", "judge_comparer(comparer, manners)", "ranks(comparer)",
                     "wrong_result(comparer, manners, first, second, *, most=2000)", "fitting(house, kind, manners)",
                     "fewest_guards(house, manners)", "right_comparer(house, manners)"],
    "manysets": ["least_telling(verdict)", "greatest_quiet(verdict)"],
    "heirs": ["with_heir(row, kind)", "closed(row, *, only=None)", "judge_open(row)", "heir_harm(row)",
              "safe_kinds(row, manners)"],
    "mends": ["mended(row, changes)", "lots(row, pool)", "lot_profiles(row, pool)", "least_mends(row, pool, manners)",
              "spoilers(row, pool, manners)"],
    "matrix": ["there_and_back(writer, reader)", "matrix(houses)"],
}
CLASSES = {
    "kinds": {
        "Field(name, mode, *, target=None, default=0, was=())": ["__eq__(self, other)"],
        "Kind(name, fields, *, base=None, frozen=False, heirs=False, key=None, registered=False)":
            ["__eq__(self, other)"],
        "House(root, kinds)": [
            "__len__(self)", "__contains__(self, x)", "__eq__(self, other)", "kind_named(self, kind)",
            "fields_of(self, kind)", "field_of(self, kind, name)", "marks_of(self, kind)", "slots_of(self, kind)",
            "lets_heirs(self, kind)", "is_frozen(self, kind)", "is_registered(self, kind)", "is_leaf(self, kind)",
            "is_movable(self, kind)", "key_of(self, kind)", "heirs_of(self, kind)", "admitted(self, target)",
            "admits(self, target, kind)", "leads(self, kind)", "leads_far(self, kind)",
            "with_kinds(self, kinds, *, root=None)"],
    },
    "webs": {
        "Web(house, things, *, here=0, old=None)": [
            "__len__(self)", "__contains__(self, x)", "__eq__(self, other)", "__getitem__(self, at)",
            "kind_of(self, thing)", "things(self)", "steps(self, thing)", "follow(self, thing, step)",
            "thing_at(self, way, *, start=None)", "reached(self, *, both=False)", "trimmed(self)",
            "with_value(self, thing, field, value)", "rooted(self, here, *, old=None)", "ways(self, most)"],
    },
    "manners": {
        "Manners(*names)": ["__len__(self)", "__contains__(self, x)", "__eq__(self, other)", "__or__(self, other)",
                            "within(self, other)", "every()"],
    },
    "clientrun": {
        "Session(web)": ["do(self, line)", "tried(self, lines)", "holds(self, name)", "held_names(self)",
                         "web_now(self)"],
    },
    "refine": {
        "Ranks(first, second)": ["__getitem__(self, at)", "__contains__(self, x)", "__len__(self)", "__iter__(self)",
                                 "most(self)", "of_rank(self, rank)"],
    },
    "travels": {
        "Travel(source, *, fates=None, rules=None, unheard=None, reader=None)": [
            "__eq__(self, other)", "fate(self, kind, field)", "rule(self, kind)", "unheard(self, kind)",
            "table(self)", "changed(self, kind, field, value)"],
    },
    "memos": {
        "Memo(number)": ["__len__(self)", "__contains__(self, x)", "known(self, key)", "keep(self, key, new)",
                         "kept(self)"],
    },
    "walk": {
        "Heap(web)": [
            "__len__(self)", "__contains__(self, x)", "__getitem__(self, at)", "kind_of(self, n)",
            "value_of(self, n, field)", "origin_of(self, n)", "memo_of(self, n)", "travel_of(self, n)",
            "house_of(self, n)", "descent(self, n)", "home_thing(self, kind, key)", "copied(self)"],
        "Walk(heap, travel)": ["step(self)", "finish(self)", "told(self)", "give_up(self)"],
    },
    "registers": {
        "Register(web)": ["__contains__(self, x)", "__len__(self)", "__iter__(self)", "values_of(self, kind, key)"],
    },
    "rows": {
        "Row(travels)": ["__len__(self)", "__iter__(self)", "__getitem__(self, at)", "__eq__(self, other)",
                         "__rshift__(self, other)", "houses(self)", "cut(self, k)"],
    },
    "fieldtables": {
        "FieldTable": ["between(writer, reader)", "through(travel)", "along(travels)", "is_plain",
                       "__getitem__(self, at)", "__iter__(self)", "__len__(self)", "__eq__(self, other)",
                       "__rshift__(self, other)", "taken_of(self, kind)", "dropped_of(self, kind)",
                       "added_of(self, kind)"],
    },
    "journeys": {
        "Journey": ["web_at(self, level)", "numbers_at(self, level)", "came(self)", "pair(self)",
                    "pair_numbers(self)", "thing_at(self, level, way)", "made_by(self, thing)"],
    },
    "oneway": {
        "Lens(row)": ["fates(self, kind, field)", "rules(self, kind)", "broken(self, word)",
                      "step(self, word, field, kind)", "words(self)", "way_to(self, word)"],
    },
    "rowrings": {"RowRing": []},
    "closure": {
        "Closure(lens)": ["table(self)", "cost(self, standing)", "trail(self, standing)"],
    },
    "verdicts": {
        "Verdict": ["faults(self)", "tells(self, manners)", "quiet(self, manners)", "cost(self, manners)",
                    "table(self)", "example(self, manners)"],
    },
    "leastweb": {"Example": []},
    "entrygraph": {
        "EntryGraph(travel)": ["met(self, kind)", "leaving(self, kind)", "__len__(self)", "__iter__(self)"],
    },
    "rings": {"KindRing(lead, ring)": ["__eq__(self, other)"]},
    "growth": {
        "Growth(travel)": ["spreads(self, kind)", "moves(self, state)", "table(self)", "trail(self)"],
    },
    "comparers": {
        "Comparer(house, *, out=(), guards=None)": [
            "__eq__(self, other)", "guard_of(self, kind)", "entry(self, kind)", "is_in(self, kind, field)",
            "with_guard(self, kind, guard)", "with_out(self, kind, field)", "with_in(self, kind, field)"],
    },
    "comparing": {
        "Comparing(comparer, first, second, *, most=2000)": [
            "step(self)", "finish(self)", "events(self)", "notes(self)", "on_way(self)"],
    },
    "comparejudge": {
        "ComparerVerdict": ["causes(self)", "__len__(self)"],
        "Cause": ["pair(self)"],
    },
    "manysets": {
        "Profile(sets=())": [
            "of(verdict)", "greatest(self)", "is_quiet", "within(self, other)", "__eq__(self, other)",
            "__or__(self, other)", "__and__(self, other)", "__contains__(self, x)", "__len__(self)", "__iter__(self)"],
    },
    "mends": {"Change(travel, kind, field, value)": ["__eq__(self, other)"]},
    "matrix": {
        "Atlas(home, travels)": [
            "runs(self, most=4)", "row_named(self, names)", "profile(self, names)",
            "quiet_runs(self, manners, most=2)", "healed(self, manners, most=2)"],
    },
}


class TestInterface(unittest.TestCase):
    def check(self, owner, described, module):
        name = described.split("(")[0]
        found = vars(owner)[name]
        if isinstance(found, property):
            self.assertEqual((name, found.fget.__module__), (described, module))
            return
        if isinstance(found, (classmethod, staticmethod)):
            found = getattr(owner, name)
        self.assertEqual(found.__module__, module)
        # The document leaves open how objects of some classes are made: these are told by their names alone.
        if "(" in described:
            self.assertEqual(name + str(inspect.signature(found)), described)

    def test_functions(self):
        for name, functions in FUNCTIONS.items():
            module = importlib.import_module("waypairs." + name)
            for described in functions:
                self.check(module, described, module.__name__)

    def test_classes(self):
        for name, classes in CLASSES.items():
            module = importlib.import_module("waypairs." + name)
            for described, methods in classes.items():
                self.check(module, described, module.__name__)
                for method in methods:
                    one = getattr(module, described.split("(")[0])
                    self.assertIn(method.split("(")[0], vars(one))
                    self.check(one, method, module.__name__)

    def test_static_and_class_methods(self):
        self.assertIsInstance(vars(importlib.import_module("waypairs.manners").Manners)["every"], staticmethod)
        table = importlib.import_module("waypairs.fieldtables").FieldTable
        for name in ("between", "through", "along"):
            self.assertIsInstance(vars(table)[name], classmethod)
        self.assertIsInstance(vars(table)["is_plain"], property)
        profile = importlib.import_module("waypairs.manysets").Profile
        self.assertIsInstance(vars(profile)["of"], classmethod)
        self.assertIsInstance(vars(profile)["is_quiet"], property)


if __name__ == "__main__":
    unittest.main()
