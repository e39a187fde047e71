"""All names of the interface stand where it lists them, with their arguments."""

import importlib
import inspect
import unittest

INTERFACE = {
    "errors": ["BillError()", "NothingToUndo()", "NothingToRedo()"] + [
        name + "(value=None)" for name in (
            "InvalidNumber InvalidKind InvalidValue InvalidProgram InvalidName InvalidBill"
            " InvalidPaper InvalidRows InvalidText InvalidUnit InvalidList InvalidDeed InvalidFlag"
            " Unlike TooMany").split()],
    "numbers": ["is_number(value)", "led_in(number)", "is_sign(value)", "done(sign, arguments)"],
    "kinds": ["is_kinds(value)", "constructors(kinds, name)", "reached(kinds, name)"],
    "values": ["is_value(program, kind, value)", "size(value)", "depth(value)"],
    "lexer": ["tokens(text)"],
    "reader": ["read_text(text)", "is_text(value)", "wrong_at(text)"],
    "printer": ["written(program)", "renamed(program)", "are_alike(one, other)"],
    "checker": ["first_wrong(value)", "is_program(value)", "step_at(program, place)",
                "places_of(program, name)"],
    "names": ["free_names(step)", "kept_names(step)", "frame_cost(step)",
              "names_at(program, place)", "reachable(program, name)"],
    "reading": ["read(program, name, arguments, hand, steps)"],
    "peaks": ["peak(program, name, arguments, steps)", "need(program, name, arguments, steps)",
              "narrowest(program, name, arguments, steps)"],
    "papers": ["first_state(program, name, arguments, hand)", "next_state(program, state)",
               "is_state(program, value)", "trace(program, name, arguments, hand, steps)",
               "is_trace(program, value)"],
    "rules": ["unknowns(program)", "inequalities(program)"],
    "judged": ["is_bill(program, value)", "is_refusal(program, value)",
               "signature(program, bill, name)", "bill_of(program, bill, name, values)",
               "fund_counts(program, name, values)"],
    "slacks": ["slacks(program, bill, name, arguments, hand, steps)"],
    "bills": ["bill_or_refusal(program)", "least_bill(program, name, values)",
              "is_least(program, name, values, value)"],
    "rewrites": ["is_rewriting(program, value)", "rewritten(program, rewriting)"],
    "passes": ["rewritings(program)", "passed(program)", "is_passage(program, value)",
               "led_by_passage(program, papers)"],
    "live": ["how_many_steps(program, name)", "alive(program, name)"],
    "pairing": ["pairing(program, name)", "is_pairing(program, name, value)",
                "is_full(program, name, pairs)", "saved(program, name, pairs)"],
    "homes": ["homes(program, name, pairs)", "is_homes(program, name, pairs, value)",
              "most_at_once(program, name, pairs)"],
    "moves": ["moves(shuffle, spare)", "is_moves(shuffle, spare, value)", "rings(shuffle)",
              "fewest_moves(shuffle)"],
    "codegen": ["code_of(program, name)", "code_with(program, name, pairs, homes)", "listing(program)"],
    "rows": ["is_listing(program, value)"],
    "machine": ["Machine(program, listing, name, arguments, cells)",
                "run(program, listing, name, arguments, cells, rows)"],
    "forest": ["is_forest(picture)"],
    "units": ["is_unit(value)", "alone(unit)", "misfit(units)", "linked(units)", "parted(program, lots)"],
    "faces": ["prices(unit)", "inner_numbers(unit, row)", "face(unit)", "is_face(unit, value)", "keeps(face, row)",
              "face_sums(unit, numbers, least)", "cut(unit, row)", "faces_bill(units)", "unlet(elder, newer)"],
    "linker": ["is_file(value)", "unit_file(unit)", "files_linked(files)"],
    "where": ["first_rows(program, name)", "where(program, machine)", "to_next_step(program, machine)",
              "line_of(program, place)", "standing(program, machine)"],
    "workshop": ["Workshop()"],
}

# The methods of each class, with their arguments, and what is read of its objects.
CLASSES = {
    "machine": ("Machine", ["step(self)", "run(self, rows)", "available(self)", "picture(self)", "copy(self)",
                            "__eq__(self, other)"], ["outcome", "place", "many"]),
    "workshop": ("Workshop", ["units(self)", "unit(self, name)", "each(self)", "put(self, unit)", "strike(self, name)",
                              "together(self, deeds, *, keep=True)", "undo(self)", "redo(self)", "log(self)", "made(self)",
                              "copy(self)", "misfit(self)", "program(self)", "code(self)", "bill(self)",
                              "run(self, name, arguments, cells, rows)", "__len__(self)", "__contains__(self, name)",
                              "__iter__(self)", "__eq__(self, other)"], []),
}


class InterfaceTest(unittest.TestCase):

    def test_names_and_arguments(self):
        for module, rows in INTERFACE.items():
            found = importlib.import_module("cellbills." + module)
            for row in rows:
                with self.subTest(module=module, row=row):
                    name = row[:row.index("(")]
                    thing = getattr(found, name)
                    self.assertEqual(name + str(inspect.signature(thing)), row)
                    self.assertEqual(thing.__module__, "cellbills." + module)

    def test_methods(self):
        for module, (name, rows, parts) in CLASSES.items():
            found = getattr(importlib.import_module("cellbills." + module), name)
            for row in rows:
                with self.subTest(module=module, row=row):
                    method = vars(found)[row[:row.index("(")]]
                    self.assertEqual(method.__name__ + str(inspect.signature(method)), row)
            for part in parts:
                self.assertIn(part, vars(found))


if __name__ == "__main__":
    unittest.main()
