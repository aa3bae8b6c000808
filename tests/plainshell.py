"""A shell by patterns of lines, over a plain bench."""

import re

from straylanes.books import book_error
from straylanes.errors import LaneError
from straylanes.machines import stretch_error
from straylanes.programs import inputs_error, result
from straylanes.programtexts import program_text, read_program
from straylanes.tellings import tell
from straylanes.wordtexts import machine_text, read_machine, read_word
from tests.plainbench import PlainBench, Refused, find, is_program

PARTS = {"NAME": "([^ ]+)", "INTS": "(none|{INT}(?:,{INT})*)", "INT": "({INT})", "TEXT": "(.*)"}
INT = "(?:0|-?[1-9][0-9]{0,60})"
LINES = ("machine NAME TEXT", "program NAME TEXT", "drop NAME", "lane NAME INT", "unlane NAME INT", "step NAME in INT INT",
         "step NAME is INT", "step NAME sum INT INT", "step NAME less INT INT", "step NAME times INT INT", "unstep NAME", "undo",
         "redo", "names", "show NAME", "reach NAME INT INT INT", "told NAME NAME INT", "made", "run NAME INTS",
         "tell NAME INT INT INT TEXT")


def pattern_of(line):
    parts = [PARTS.get(part, part).replace("{INT}", INT) for part in line.split(" ")]
    return re.compile(" ".join(parts), re.DOTALL | re.ASCII)


PATTERNS = [(line, pattern_of(line)) for line in LINES]


def machine_of(things, name):
    thing = find(things, name)
    if is_program(thing):
        raise Refused("Unfit()")
    return thing


class PlainShell:
    def __init__(self):
        self.bench = PlainBench()

    def say(self, line):
        found = [(form, pattern.fullmatch(line)) for form, pattern in PATTERNS] if isinstance(line, str) else []
        found = [(form, match.groups()) for form, match in found if match]
        if not found:
            return "what"
        (form, told), = found
        try:
            return self.do(form, form.split(" ")[0], told)
        except LaneError as error:
            return f"error {error.__class__.__name__}"
        except Refused as refused:
            return "error " + str(refused).split("(")[0]

    def do(self, form, word, told):
        edits = {"drop": "drop", "lane": "lane_put", "unlane": "lane_taken", "unstep": "step_taken"}
        if word in ("machine", "program"):
            read = read_machine if word == "machine" else read_program
            return f"version {self.bench.edit('keep', told[0], read(told[1]))}"
        if word in edits:
            return f"version {self.bench.edit(edits[word], told[0], *map(int, told[1:]))}"
        if word == "step":
            return f"version {self.bench.edit('step_put', told[0], (form.split(' ')[2], *map(int, told[1:])))}"
        if word in ("undo", "redo"):
            return f"version {getattr(self.bench, word)()}"
        if word == "names":
            return " ".join(sorted(self.bench.things())) or "none"
        if word == "made":
            return str(len(self.bench.asks))
        if word == "reach":
            return str(self.bench.reach_of(told[0], tuple(map(int, told[1:]))))
        if word == "told":
            return "yes" if self.bench.told(told[0], told[1], int(told[2])) else "no"
        return getattr(self, word)(*told)

    def show(self, name):
        thing = find(self.bench.things(), name)
        return "program " + program_text(thing) if is_program(thing) else "machine " + machine_text(thing)

    def run(self, name, ints):
        program = find(self.bench.things(), name)
        inputs = () if ints == "none" else tuple(map(int, ints.split(",")))
        if not is_program(program) or inputs_error(program, inputs) is not None:
            raise Refused("Unfit()")
        return str(result(program, inputs))

    def tell(self, name, low, high, book, text):
        machine = machine_of(self.bench.things(), name)
        word = read_word(machine, text)
        if stretch_error((int(low), int(high))) is not None:
            raise Refused("Unfit()")
        if book_error(machine, int(book)) is not None:
            raise Refused("BadBook()")
        return str(tell(machine, word, (int(low), int(high)), int(book)))
