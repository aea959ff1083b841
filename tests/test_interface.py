"""The interface: each function stands in its own file, and takes its arguments under the names that are told."""

import importlib
import inspect
import unittest

INTERFACE = {
    "tables": {
        "table_error": "value", "text_error": "table value", "letters_of": "table", "counts_of": "table",
        "count_of": "table letter", "cell_of": "table letter k", "rank_at": "table cell",
    },
    "tabletexts": {
        "table_text": "table", "read_table": "value", "letters_text": "text", "read_letters": "table value",
    },
    "writing": {"write": "table state text", "bit_count": "table state text", "pack": "table text"},
    "reading": {"read": "table state bits many", "read_back": "table state bits", "unpack": "table value"},
    "bittexts": {"packet_text": "packet", "read_packet": "value"},
    "turns": {
        "turn_error": "many value", "led": "turn height", "plain_turn": "many", "letter_turn": "table letter",
        "text_turn": "table text", "then": "one other", "image_of": "turn", "table_of": "value",
    },
    "turnpowers": {"power": "turn times"},
    "costs": {"cost": "table text", "turn_cost": "turn", "cost_holds": "table text value"},
    "rounds": {
        "rounds": "table text", "turn_rounds": "turn", "tail": "table text state", "bits_for": "table state text times",
    },
    "starts": {
        "bits_from": "table text", "cut_state": "table text", "parting_text": "table one other", "stretches": "table",
        "meeting_text": "table one other",
    },
    "machines": {"machine_of": "table", "machine_bits": "machine number text"},
    "lots": {"lots": "table", "left_by": "table text", "rank": "table"},
    "combs": {"comb": "table", "is_comb": "table value", "reset_text": "table"},
    "moves": {"moves": "table text", "combed": "table text letters"},
    "joint": {"excess": "one other", "round_holds": "one other value", "unlike_text": "one other"},
    "weights": {"excess_paper": "one other", "excess_holds": "one other value"},
    "means": {
        "cheapest": "table letters", "dearest": "table letters", "mean_paper": "table letters word",
        "mean_holds": "table letters word value",
    },
    "sums": {
        "fewest_bits": "table letters state many", "most_bits": "table letters state many",
        "cheapest_text": "table letters state many", "count_within": "table letters state many bits",
    },
    "spreads": {"in_blocks": "counts", "evenly": "counts"},
    "tablerows": {
        "table_many": "counts", "table_at": "counts number", "table_number": "table", "best_tables": "counts text",
        "best_cost": "counts text",
    },
    "books": {
        "book_error": "value", "write_line": "book state line", "read_line": "book state bits places",
        "by_rule": "book rule first text", "read_by": "book rule first state bits many",
    },
    "bookturns": {"line_turn": "book line", "line_cost": "book line", "book_rank": "book"},
    "shares": {"reader_step": "table", "state_shares": "table", "shares": "table", "whole_of": "table state many"},
    "lengths": {
        "seen_error": "letters value", "fitting": "many letters seen", "sure_cells": "many letters seen",
        "bits_told": "many letters seen text", "telling_text": "one other",
    },
    "logs": {"log_text": "edits", "read_log": "value", "bench_behind": "edits"},
}

CLASSES = {
    "benches": {
        "Bench": {
            "keep": "name table", "drop": "name", "exchange": "name one other", "put": "name cell letter",
            "take": "name cell", "batch": "edits", "bits": "name text", "turn": "name text", "cost": "name text",
            "undo": "", "redo": "", "at": "version", "copy": "", "attempt": "work",
        },
    },
    "shells": {"Shell": {"say": "line"}},
}
SIGNS = ("__len__", "__contains__", "__getitem__", "__iter__", "__eq__")
READ = ("shelf", "version", "log", "made")


class InterfaceTest(unittest.TestCase):
    def test_functions(self):
        for file, functions in INTERFACE.items():
            module = importlib.import_module("unpassed." + file)
            for name, words in functions.items():
                function = getattr(module, name)
                self.assertTrue(inspect.isfunction(function), name)
                self.assertEqual(function.__module__, "unpassed." + file, name)
                parameters = inspect.signature(function).parameters
                self.assertEqual(list(parameters), words.split(), name)
                for parameter in parameters.values():
                    self.assertEqual(parameter.kind, parameter.POSITIONAL_OR_KEYWORD, name)
                    self.assertEqual(parameter.default, parameter.empty, name)

    def test_classes(self):
        for file, classes in CLASSES.items():
            module = importlib.import_module("unpassed." + file)
            for name, methods in classes.items():
                kind = getattr(module, name)
                self.assertTrue(inspect.isclass(kind), name)
                self.assertEqual((kind.__module__, kind.__bases__), ("unpassed." + file, (object,)), name)
                for method, words in methods.items():
                    parameters = inspect.signature(vars(kind)[method]).parameters
                    self.assertEqual(list(parameters), ["self"] + words.split(), method)
                    for parameter in parameters.values():
                        self.assertEqual(parameter.kind, parameter.POSITIONAL_OR_KEYWORD, method)
                        self.assertEqual(parameter.default, parameter.empty, method)
                kind()

    def test_signs_and_attributes(self):
        kind = importlib.import_module("unpassed.benches").Bench
        for name in SIGNS + READ:
            self.assertIn(name, vars(kind))
        for name in READ:
            self.assertTrue(hasattr(kind(), name), name)

    def test_the_whole_document(self):
        files = {*INTERFACE, *CLASSES, "bounds", "errors"}
        self.assertEqual(len(files), 29)
        for file in files:
            importlib.import_module("unpassed." + file)


if __name__ == "__main__":
    unittest.main()
