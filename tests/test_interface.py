"""The interface: each name stands in the file under which it is listed, with its arguments."""

import ast
import unittest

from tests.test_language import package_files

FUNCTIONS = {
    "names": ["is_label(thing)", "is_name(thing)", "name_of(text)", "text_of(name)", "below(name, other)", "star_of(name)", "ordered_names(names)"],
    "records": ["is_record(thing)", "ordered(records)"],
    "letters": ["is_letter(thing)", "row_of(letter)", "letter_of(row)"],
    "zonetext": ["record_text(record)", "record_of(text)", "zone_text(zone)", "read_zone(text)"],
    "telling": ["told(zone, name, kind)", "answer_of(zone, letter)"],
    "seals": ["sum_of(records, key)", "is_right(records, seal)", "sealed(zone, keys)"],
    "shown": ["step_of(zone, name, kind)", "shown(trusted, steps, name, kind)"],
    "desk": ["answered(house, line)", "played(house, lines)"],
}
CLASSES = {
    "zones": {"Zone": ["__init__(self, origin, records)", "records(self)", "has(self, name)"]},
    "keeping": {"Keeper": ["__init__(self, zone)", "version(self)", "zone(self)", "change(self, wishes, takes, puts)", "since(self, version)"]},
    "copies": {"Copy": ["__init__(self, zone)", "version(self)", "zone(self)", "follow(self, keeper)"]},
    "memory": {"Memory": ["__init__(self)", "keep(self, records, turn)", "lack(self, name, kind, none, turn)", "find(self, name, kind, turn)",
                          "many(self, turn)"]},
    "asker": {"Asker": ["__init__(self, roots)", "begin(self, name, kind, turn)", "hear(self, addr, row, turn)", "tick(self, turn)", "end(self)",
                        "sent(self)", "memory(self)"]},
    "road": {"Road": ["__init__(self, row)", "send(self, letter, turn)", "due(self, turn)", "many(self)"]},
    "house": {"House": ["__init__(self, zones, roots, road=None)", "turn(self)", "go(self)", "ask(self, name, kind)", "end(self)", "sent(self)",
                        "zone(self, addr)", "change(self, addr, wishes, takes, puts)", "copy(self, addr, of)", "follow(self, addr)",
                        "sleep(self, addr)", "wake(self, addr)", "book(self)"]},
}


def heads(body):
    """The functions of a body, with their arguments."""
    return [f"{part.name}({ast.unparse(part.args)})" for part in body if isinstance(part, ast.FunctionDef)]


class InterfaceTest(unittest.TestCase):
    def setUp(self):
        self.trees = {name[:-3]: ast.parse(text) for name, text in package_files().items()}

    def test_functions(self):
        for file, wanted in FUNCTIONS.items():
            found = heads(self.trees[file].body)
            for head in wanted:
                self.assertIn(head, found, file)

    def test_classes(self):
        for file, classes in CLASSES.items():
            found = {part.name: heads(part.body) for part in self.trees[file].body if isinstance(part, ast.ClassDef)}
            for name, wanted in classes.items():
                for head in wanted:
                    self.assertIn(head, found[name], name)


if __name__ == "__main__":
    unittest.main()
