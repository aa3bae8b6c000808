"""What DOC.md tells of chains, results, units and ledgers, by going through everything; for small ones alone."""

from functools import lru_cache
from itertools import chain as joined
from itertools import combinations, product

from straylanes.programs import result
from straylanes.runs import strayed_words, strayers, strays_error
from tests import plain


@lru_cache(maxsize=None)
def strength(machine, many):
    borne = [t for t in range(len(machine) + 1) if plain.reach(machine, (t, t, 0)) >= many]
    return max([-1] + borne)


def is_right_row(machine, chain, w, row):
    ahead = -1
    for place in row:
        # At most one lane in any w steps: rounded up.
        if strength(machine, chain[place]) < -((ahead - place) // w):
            return False
        ahead = place
    return ahead == len(chain) - 1


def all_rows(many):
    """Return all ascending tuples of places of a chain of so many items."""
    return list(joined(*[combinations(range(many), size) for size in range(many + 1)]))


def all_inputs(program):
    return list(product(*[range(step[1], step[2] + 1) for step in program if step[0] == "in"]))


def strayed(machine, word, lots):
    """Return all words that word can become if all lanes of one of lots put out anything."""
    words = set()
    for lot in lots:
        items = [range(modulus) if lane in lot else (word[lane],) for lane, modulus in enumerate(machine)]
        words |= set(product(*items))
    return words


def are_told(machine, program, book):
    """Tell whether no word behind the last step can come from two unlike results."""
    lots, came = plain.lots_let(machine, book), {}
    for value in {result(program, inputs) for inputs in all_inputs(program)}:
        for word in strayed(machine, tuple(value % modulus for modulus in machine), lots):
            if came.setdefault(word, value) != value:
                return False
    return True


def is_paper(machine, program, book, value):
    """Tell whether value, two pairs of inputs and strays, is a paper; it is told by running both runs."""
    (one, strays), (other, other_strays) = value
    for inputs, row in value:
        lows = [step[1:] for step in program if step[0] == "in"]
        assert isinstance(inputs, tuple) and len(inputs) == len(lows)
        assert all(low <= number <= high for number, (low, high) in zip(inputs, lows))
        assert strays_error(machine, program, row) is None
        if not plain.lets(book, strayers(row)):
            return False
    words = [strayed_words(machine, program, inputs, row)[-1] for inputs, row in value]
    return result(program, one) != result(program, other) and words[0] == words[1]


def faces(machine, program, inputs, lane, units):
    """Return the rests that lane puts out at the last step for all rows of rests at units."""
    rows = product(range(machine[lane]), repeat=len(units))
    return {strayed_words(machine, program, inputs, tuple((lane, at, rest) for at, rest in zip(units, row)))[-1][lane]
            for row in rows}


def all_strays(machine, units, book):
    """Return all strays at units whose strayers book lets."""
    places = [(lane, at) for lane in range(len(machine)) for at in units]
    rows = product(*[(None, *range(machine[lane])) for lane, _ in places])
    strays = [tuple((*place, rest) for place, rest in zip(places, row) if rest is not None) for row in rows]
    return [row for row in strays if plain.lets(book, tuple(sorted({lane for lane, _, _ in row})))]


def are_told_from(machine, program, book, units):
    """Tell whether no two runs with strays at units alone are mixed up, by going through all runs."""
    came, strays = {}, all_strays(machine, units, book)
    for inputs in all_inputs(program):
        value = result(program, inputs)
        for row in strays:
            if came.setdefault(strayed_words(machine, program, inputs, row)[-1], value) != value:
                return False
    return True


def greatest_lots(machine, book):
    lots = plain.lots_let(machine, book)
    return sorted(lot for lot in lots if not any(set(lot) < set(other) for other in lots))


def let_there(machine, run, lot):
    word, stretch = run
    return [number for number in plain.numbers(stretch) if set(plain.astray(machine, word, number)) <= set(lot)]


class Accounts:
    """All that a ledger can have come from."""

    def __init__(self, machine, ledger, book):
        self.machine, self.ledger = machine, ledger
        self.fits = {}
        for lot in greatest_lots(machine, book):
            lists = [let_there(machine, run, lot) for run in ledger]
            if all(lists):
                self.fits[lot] = lists

    def numbers(self):
        """Return for each run the number that is in each account, None if there are several."""
        told = []
        for place in range(len(self.ledger)):
            found = {number for lists in self.fits.values() for number in lists[place]}
            told.append(min(found) if len(found) == 1 else None)
        return tuple(told)

    def strayers(self):
        """Return for each account the lanes that stray in it; for few runs and numbers alone."""
        found = set()
        for lists in self.fits.values():
            for row in product(*lists):
                astray = [plain.astray(self.machine, word, number) for (word, _), number in zip(self.ledger, row)]
                found.add(frozenset(joined(*astray)))
        return found
