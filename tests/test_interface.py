"""The interface: each name with its arguments and defaults, each class with its values and methods."""

import importlib
import inspect
import unittest

FUNCTIONS = {
    "rights": ("is_rights(thing)", "within(some, more)", "missing(needed, had)", "narrowed(rights, to)",
               "one_by_one(rights)", "words_of(rights)", "rights_of(text)", "is_name(thing)", "is_value(thing)",
               "are_words(thing)"),
    "kernel": ("begun(name)", "handle_at(kernel, task, slot)", "need_rights(rights, had)",
               "make(kernel, task, kind)", "start(kernel, task, name)", "narrow(kernel, task, slot, rights)",
               "hand(kernel, task, slot, other, rights=None)"),
    "deeds": ("call_back(kernel, task, slot)", "give_up(kernel, task, slot)",
              "do(kernel, task, slot, deed, value=0)"),
    "letters": ("send(kernel, task, slot, words, slots=None, rights=63)", "hear(kernel, task, slot)"),
    "book": ("can(kernel, task, thing)", "could(kernel, task, thing, still=None)", "who_can(kernel, thing, rights)",
             "chain_of(kernel, task, slot)", "given_to(kernel, task, slot)", "book(kernel)"),
    "log": ("acted(kernel, row)", "played(name, rows)", "refusal_word(error)"),
    "showing": ("shown(kernel)",),
    "desk": ("answers(name, text)",),
}
METHODS = {
    ("things", "Thing"): ("__init__(self, number)", "kind(self)", "fits(self)", "needs(self, deed)",
                          "did(self, deed, value)", "told(self)"),
    ("things", "Cell"): ("__init__(self, number)",),
    ("things", "Line"): ("__init__(self, number)",),
    ("things", "Door"): ("__init__(self, number)", "letters(self)"),
    ("things", "Post"): ("__init__(self, number, name)",),
    ("tree", "Tree"): ("__init__(self)", "rooted(self, thing, rights, holder)",
                       "derived(self, number, rights, holder)", "handle(self, number)", "held(self, number, holder)",
                       "below(self, number)", "chain(self, number)", "cut(self, number)", "kept(self)"),
    ("tasks", "Tasks"): ("__init__(self)", "added(self, name, maker)", "need(self, name)", "running(self)",
                         "names(self)", "slots(self, name)", "made_by(self, name)", "stopped(self, name)",
                         "put(self, name, number)", "at(self, name, slot)", "free(self, name)",
                         "taken_out(self, number)"),
    ("kernel", "Kernel"): ("__init__(self, name)",),
    ("letters", "Letter"): ("__init__(self, words, parts)",),
    ("errors", "NoDeed"): ("__init__(self, deed)",),
    ("errors", "Lacks"): ("__init__(self, missing)",),
}
NUMBERS = {"LOOK": 1, "PUT": 2, "SEND": 4, "HEAR": 8, "END": 16, "PASS": 32}


def module(name):
    return importlib.import_module("passkeep." + name)


class InterfaceTest(unittest.TestCase):
    def same(self, found, told):
        self.assertEqual(found.__name__ + str(inspect.signature(found)), told)

    def test_functions(self):
        for name, functions in FUNCTIONS.items():
            for told in functions:
                self.same(getattr(module(name), told.partition("(")[0]), told)

    def test_methods(self):
        for (name, kind), methods in METHODS.items():
            for told in methods:
                self.same(getattr(getattr(module(name), kind), told.partition("(")[0]), told)

    def test_numbers(self):
        for name, number in NUMBERS.items():
            self.assertEqual(getattr(module("rights"), name), number)

    def test_kinds_of_things(self):
        for kind in ("Cell", "Line", "Door", "Post"):
            self.assertTrue(issubclass(getattr(module("things"), kind), module("things").Thing))


if __name__ == "__main__":
    unittest.main()
