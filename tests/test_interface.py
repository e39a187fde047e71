"""All names of the interface stand where it lists them, with their arguments."""

import importlib
import inspect
import unittest

INTERFACE = {
    "errors": ["BillError()", "NothingToUndo()", "NothingToRedo()"] + [
        name + "(value=None)" for name in (
            "InvalidNumber InvalidKind InvalidValue InvalidProgram InvalidName InvalidBill"
            " InvalidPaper InvalidRows InvalidText InvalidUnit InvalidList InvalidDeed InvalidFlag"
            " Unlike TooMany").split()],
    "numbers": ["is_number(value)", "led_in(number)", "is_sign(value)", "done(sign, arguments)"],
    "kinds": ["is_kinds(value)", "constructors(kinds, name)", "reached(kinds, name)"],
    "values": ["is_value(program, kind, value)", "size(value)", "depth(value)"],
    "lexer": ["tokens(text)"],
    "reader": ["read_text(text)", "is_text(value)", "wrong_at(text)"],
    "printer": ["written(program)", "renamed(program)", "are_alike(one, other)"],
    "checker": ["first_wrong(value)", "is_program(value)", "step_at(program, place)",
                "places_of(program, name)"],
    "names": ["free_names(step)", "kept_names(step)", "frame_cost(step)",
              "names_at(program, place)", "reachable(program, name)"],
    "reading": ["read(program, name, arguments, hand, steps)"],
    "peaks": ["peak(program, name, arguments, steps)", "need(program, name, arguments, steps)",
              "narrowest(program, name, arguments, steps)"],
    "papers": ["first_state(program, name, arguments, hand)", "next_state(program, state)",
               "is_state(program, value)", "trace(program, name, arguments, hand, steps)",
               "is_trace(program, value)"],
    "rules": ["unknowns(program)", "inequalities(program)"],
    "judged": ["is_bill(program, value)", "is_refusal(program, value)",
               "signature(program, bill, name)", "bill_of(program, bill, name, values)",
               "fund_counts(program, name, values)"],
    "slacks": ["slacks(program, bill, name, arguments, hand, steps)"],
    "bills": ["bill_or_refusal(program)", "least_bill(program, name, values)",
              "is_least(program, name, values, value)"],
    "rewrites": ["is_rewriting(program, value)", "rewritten(program, rewriting)"],
    "passes": ["rewritings(program)", "passed(program)", "is_passage(program, value)",
               "led_by_passage(program, papers)"],
    "live": ["how_many_steps(program, name)", "alive(program, name)"],
    "pairing": ["pairing(program, name)", "is_pairing(program, name, value)",
                "is_full(program, name, pairs)", "saved(program, name, pairs)"],
}


class InterfaceTest(unittest.TestCase):

    def test_names_and_arguments(self):
        for module, rows in INTERFACE.items():
            found = importlib.import_module("cellbills." + module)
            for row in rows:
                with self.subTest(module=module, row=row):
                    name = row[:row.index("(")]
                    thing = getattr(found, name)
                    self.assertEqual(name + str(inspect.signature(thing)), row)
                    self.assertEqual(thing.__module__, "cellbills." + module)


if __name__ == "__main__":
    unittest.main()
