"""Everything of the interface is there under its name, with its arguments."""
import importlib
import inspect
import unittest

FUNCTIONS = {
    "fractions": [
        "made(number, parts)", "sum_of(one, other)", "less_by(one, other)", "times(one, other)", "below(one, other)",
    ],
    "pipe": ["place_of(pipe, node)", "half_at(pipe, distance)", "thick_of(pipe, one, other)",
             "are_apart(pipe, one, other)"],
    "content": ["stretches(content)", "meetings(content)", "pigs(content)", "ware_at(content, place)"],
    "touching": ["first_touch(content, i, j, ware, volume)"],
    "pushing": ["pushed(content, i, j, ware, volume, pig=None)"],
    "views": ["told(content)", "told_out(out)", "mixed_of(view)", "amounts_of(view)"],
    "spacers": ["spacer_for(content, i, j, ware, spacers)", "sent(content, i, j, ware, volume, spacers)"],
    "tanks": ["level_of(tank)", "may_blend(tank, shares, bounds)", "put_in(tank, shares, hour)",
              "taken_out(tank, volume)"],
    "works": ["like(works)", "do_deed(works, deed)", "account_of(works)"],
    "sequence": ["waste_between(pipe, one, other)", "least_order(pipe, wares)", "tree_of(pipe, wares)",
                 "near_order(pipe, wares)"],
    "plans": ["shape_done(works, batches, spacers, numbers)", "planned(works, batches, spacers)"],
    "rows": ["read_sheet(text)"],
    "sheet": ["answers(text)"],
}
CLASSES = {
    "pipe": ["Pipe(rooms, table, thick, apart, pig)"],
    "content": ["Content(pipe, fill)"],
    "tanks": ["Tank(ware, low, high, start, settle)"],
    "works": ["Works(pipe, fill, sources, tanks, bounds, orders)"],
    "book": ["Book(works)"],
}
BOOK_METHODS = ["add(deed)", "put_right(k, volume)", "taken_back()", "works()", "deeds()", "told()"]


def form_of(found, first=0):
    """The name and the arguments, from the first one that a caller hands in."""
    parameters = list(inspect.signature(found).parameters.values())[first:]
    return f"{found.__name__}({', '.join(str(parameter) for parameter in parameters)})"


class Interface(unittest.TestCase):
    def assert_there(self, module, form):
        name = form.split("(")[0]
        found = getattr(importlib.import_module("batchpipe." + module), name)
        self.assertEqual(form_of(found), form, module)
        return found

    def test_functions(self):
        for module, forms in FUNCTIONS.items():
            for form in forms:
                self.assertTrue(inspect.isfunction(self.assert_there(module, form)))

    def test_classes(self):
        for module, forms in CLASSES.items():
            for form in forms:
                self.assertTrue(inspect.isclass(self.assert_there(module, form)))

    def test_methods_of_a_book(self):
        book = importlib.import_module("batchpipe.book").Book
        for form in BOOK_METHODS:
            self.assertEqual(form_of(getattr(book, form.split("(")[0]), 1), form)


if __name__ == "__main__":
    unittest.main()
