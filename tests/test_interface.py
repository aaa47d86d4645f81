"""The part "The interface": names, arguments, and where each one is defined."""

import importlib
import inspect
import unittest

FUNCTIONS = {
    "rows": "is_thing(row) form_of(thing) number_of(thing) body_of(thing) thing_of(form,number,body)",
    "rules": "body_for(start,rules)",
    "listings": "write_body(body) read_body(text)",
    "running": "run(thing,row)",
    "likeness": "alike(one,other) apart(one,other) apart_form(one,other,form) apart_at(one,other,form,number)"
                " twists(one,other,form)",
    "right": "leads(maker,target,thing) is_right(source,target,thing) first_wrong(maker,source,target)",
    "makers": "maker(parts) twisted(parts,others) rounds(maker,thing,many)",
    "books": "is_claim(book,thing)",
    "booktexts": "write_book(book) read_book(text)",
    "closing": "",
    "worlds": "is_world(book,thing) holds(book,world,claim)",
    "building": "world_with(book,claim) world_without(book,claim) some_world(book)",
    "answers": "answer(book,claim) fits(book) surely_alike(book)",
    "chains": "chain(book,kept,claim,word) is_chain(book,kept,claim,word,thing) notes_used(book,thing)",
    "papers": "paper(book,claim) is_paper(book,claim,word,thing) broken_paper(book) is_broken_paper(book,thing)",
    "lots": "bearing(book,claim) barring(book,claim) undoing(book,claim) blame(book) margin(book,claim)",
    "plans": "had(book,kept) plan(book,kept,thing,form) is_plan(book,kept,name,form,thing) depth_of(planned)"
             " grown(book,planned) seeds(book,name,form)",
    "news": "changes(old,new,claims)",
    "houses": "",
}

CLASSES = {
    ("rules", "Rules"): "__init__(body) __eq__(other)",
    ("running", "Machine"): "__init__(thing,row) step() back() go()",
    ("books", "Book"): "__init__(things,scraps,hosts,makings,notes,doubtful,lies) __eq__(other) form(name) all_notes()"
                       " sure_notes() with_thing(name,form) with_scrap(name) with_host(name,form) with_making(making)"
                       " with_note(note,doubt) without_note(at) with_lies(lies)",
    ("houses", "House"): "__init__() put(name,row) host(name,form) bend(host,maker,thing,row) note(note,doubt)"
                         " withdraw(at) allow(n) undo() make(host,maker,thing,name) book() names() false_notes()"
                         " row_of(name) world() ask(claim) really(claim) trying(deed)",
    ("closing", "Closing"): "__init__(book,kept,said) same(a,b) clashes() has(claim) ways(a) outcomes(a,x) classes()",
}

PROPERTIES = {("running", "Machine"): "thing row at stand over steps written"}


class TestInterface(unittest.TestCase):
    def check(self, found, module, listed, first):
        name, _, arguments = listed.rstrip(")").partition("(")
        self.assertEqual(found.__module__, module, listed)
        self.assertEqual(found.__name__, name)
        wanted = first + [argument for argument in arguments.split(",") if argument]
        self.assertEqual(list(inspect.signature(found).parameters), wanted, listed)

    def test_functions(self):
        for place, listed in FUNCTIONS.items():
            module = importlib.import_module("trulymade." + place)
            for one in listed.split():
                self.check(getattr(module, one.partition("(")[0]), module.__name__, one, [])

    def test_classes(self):
        for (place, name), listed in CLASSES.items():
            module = importlib.import_module("trulymade." + place)
            for one in listed.split():
                self.check(vars(getattr(module, name))[one.partition("(")[0]], module.__name__, one, ["self"])

    def test_properties(self):
        for (place, name), listed in PROPERTIES.items():
            module = importlib.import_module("trulymade." + place)
            for one in listed.split():
                self.assertIsInstance(vars(getattr(module, name))[one], property)


if __name__ == "__main__":
    unittest.main()
