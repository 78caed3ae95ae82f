import unittest
from copy import deepcopy
from itertools import combinations, permutations, product
from random import Random

from endonce.data import is_lot
from endonce.errors import NoLot, NotOrder
from endonce.judge import before
from endonce.orders import lot_for, told_order
from endonce.ring import Ring
from endonce.texts import script_in, setup_in
from things import as_lists, close

SETUP = (9, 4, ("p",), ())
NOP = ("nop",)


def pairs_in(text):
    """Pairs of tags of one letter, as "ab cd"."""
    return tuple((one, other) for one, other in text.split())


def strict_orders(tags):
    """All strict orders of these tags, as ascending tuples of pairs."""
    every = list(permutations(tags, 2))
    for chosen in product((False, True), repeat=len(every)):
        pairs = {pair for pair, taken in zip(every, chosen) if taken}
        if all((one, last) in pairs for one, other in pairs for first, last in pairs if other == first):
            yield tuple(sorted(pairs))


def lots_of(tags, further):
    """All lots of nops with these tags in their order, and further ones called x and so on between them."""
    for places in combinations(range(len(tags) + further), further):
        names = list(tags)
        for number, place in enumerate(places):
            names.insert(place, "xyz"[number])
        for flags in product(((), ("drain",), ("drain", "link"), ("link",)), repeat=len(names)):
            lot = tuple((name, NOP, row) for name, row in zip(names, flags))
            if is_lot(SETUP, lot):
                yield lot


def orders_with(tags, further):
    """All orders that lots of nops with these tags and so many further ones tell among the tags."""
    found = {tuple(pair for pair in told_order(lot) if pair[0] in tags and pair[1] in tags) for lot in lots_of(tags, further)}
    names = [dict(zip(tags, row)) for row in permutations(tags)]
    return {tuple(sorted((name[one], name[other]) for one, other in order)) for order in found for name in names}


class ToldOrderTest(unittest.TestCase):
    def check(self, wanted, text):
        lot = script_in(setup_in("ring 9 4 pipes p slots p"), "put " + text)[0][1]
        told = told_order(lot)
        self.assertIsInstance(told, list)
        with self.subTest(lot=text):
            self.assertEqual(repr(told), repr(sorted(pairs_in(wanted))))

    def test_the_example_of_the_document(self):
        self.assertEqual(told_order((("a", NOP, ("link",)), ("b", NOP, ()), ("c", NOP, ("drain",)), ("d", NOP, ()))),
                         [("a", "b"), ("a", "c"), ("a", "d"), ("b", "c"), ("b", "d"), ("c", "d")])

    def test_chains(self):
        self.check("", "a nop")
        self.check("", "b nop | a nop")
        self.check("ba", "b nop hard | a nop")
        self.check("ba bc ac", "b nop link | a read p 1 hard | c nop")
        self.check("ab cd", "a nop link | b nop | c nop hard | d work bad | e nop")

    def test_linktimeouts_do_not_count(self):
        self.check("ab", "a nop link | t linktimeout 5 | b nop | c nop hard | u linktimeout 4")
        self.check("ad bc bd cd", "a nop | b nop link | t linktimeout 5 | c nop | d nop drain link | u linktimeout 4")

    def test_drains(self):
        self.check("", "d nop drain")
        self.check("da db", "d nop drain | a nop | b nop")
        self.check("ad bd", "a nop | b nop | d nop drain")
        self.check("ad ab ac db dc", "a nop | d nop drain | b nop | c nop")
        self.check("ad ae de", "a nop | d nop drain | e nop drain")
        # Behind one with "drain" its own chain, and what stands behind this.
        self.check("ad ab ac db dc bc", "a nop | d nop drain link | b nop link | c nop")
        self.check("ad ab ac db bc dc", "a nop | d nop drain link | b nop | c nop drain")
        self.check("ad ab ac db dc", "a nop | d nop drain link | b nop | c nop")

    def test_it_is_what_the_ring_does(self):
        dice = Random(13)
        for _ in range(150):
            lot = []
            binds = ()
            for tag in "hgfedcba"[:dice.randint(2, 8)]:
                drains = not binds and dice.random() < 0.3
                binds = dice.choice(((), ("link",), ("hard",)))
                lot.append((tag, NOP, ("drain",) * drains + binds))
                if binds and dice.random() < 0.2:
                    lot.append((tag * 2, ("linktimeout", 9), ()))
            if binds and lot[-1][1] == NOP:
                lot.append(("z", ("linktimeout", 9), ()))
            self.assertTrue(is_lot(SETUP, tuple(lot)))
            ring = Ring(SETUP)
            ring.put(lot)
            history = close(ring)
            tags = [tag for tag, deed, _ in lot if deed == NOP]
            follows = [(one, other) for one in tags for other in tags if before(SETUP, history, ("end", one), ("begin", other))]
            self.assertEqual(told_order(tuple(lot)), sorted(follows), lot)

    def test_lists_and_names_of_arguments(self):
        lot = (("a", NOP, ("link",)), ("t", ("linktimeout", 3), ()), ("b", NOP, ()), ("c", NOP, ("drain",)))
        given = as_lists(lot)
        copies = deepcopy(given)
        self.assertEqual(repr(told_order(given)), repr(told_order(lot)))
        self.assertEqual(given, copies)
        self.assertEqual(told_order(lot=lot), told_order(lot))
        told_order(lot).clear()
        self.assertEqual(told_order(lot), [("a", "b"), ("a", "c"), ("b", "c")])


class LotForTest(unittest.TestCase):
    def check(self, tags, wanted, further):
        """A lot of nops with so many further ones, whose order among the tags is this one."""
        pairs = tuple(sorted(pairs_in(wanted)))
        lot = lot_for(tuple(tags), pairs)
        with self.subTest(tags=tags, pairs=wanted):
            self.assertTrue(is_lot(SETUP, lot))
            self.assertEqual({deed for _, deed, _ in lot}, {NOP})
            self.assertEqual(sorted(set(tags) - {tag for tag, _, _ in lot}), [])
            self.assertEqual(len(lot), len(tags) + further)
            self.assertEqual(tuple(pair for pair in told_order(lot) if pair[0] in tags and pair[1] in tags), pairs)

    def test_the_examples_of_the_document(self):
        self.assertEqual(len(lot_for(("a", "b", "c", "d"), (("a", "c"), ("a", "d"), ("b", "c"), ("b", "d")))), 5)
        self.no_lot("abcd", "ab ac", "abcd")

    def test_one_tag_all_side_by_side_and_all_in_a_row(self):
        self.check("a", "", 0)
        self.check("abcde", "", 0)
        self.check("abcd", "cb cd ca bd ba da", 0)

    def test_rows_side_by_side(self):
        self.check("abcde", "ca db de be", 0)
        self.check("abcdef", "fa fc ac", 0)

    def test_blocks_with_rows(self):
        self.check("abcd", "ac ad bc bd", 1)
        self.check("abcde", "ac ad bc bd ae be ce de", 1)
        self.check("abcde", "ab ac ad ae be ce de", 0)
        self.check("abcdef", "ac ad bc bd ae be af bf ce cf de df", 2)
        # A block of two rows, one of one tag, and one of two rows of two tags each.
        self.check("abcdefg", "ac bc ad bd ae be af bf ag bg cd ce cf cg de fg", 0)
        self.check("abcdef", "ab ac ad ae af be bf ce cf de df bc", 1)

    def test_the_names_of_further_ones(self):
        letters = "abcdefghijkl"
        blocks = [letters[at:at + 2] for at in range(0, 12, 2)]
        self.check(letters, " ".join(one + other for at, block in enumerate(blocks) for one in block for row in blocks[at + 1:] for other in row), 5)

    def test_no_lot_with_fewer_requests_tells_the_order(self):
        for many, most in ((1, 0), (2, 1), (3, 1), (4, 1)):
            tags = "abcd"[:many]
            told = [orders_with(tags, further) for further in range(most + 1)]
            numbers = {}
            for order in strict_orders(tags):
                fewest = min((further for further in range(most + 1) if order in told[further]), default=None)
                numbers[fewest] = numbers.get(fewest, 0) + 1
                if fewest is None:
                    with self.assertRaises(NoLot):
                        lot_for(tuple(tags), order)
                else:
                    self.check(tags, " ".join(one + other for one, other in order), fewest)
        self.assertEqual(numbers, {0: 165, 1: 6, None: 48})

    def no_lot(self, tags, pairs, four):
        with self.subTest(tags=tags, pairs=pairs), self.assertRaises(NoLot) as caught:
            lot_for(tuple(tags), tuple(sorted(pairs_in(pairs))))
        self.assertEqual(repr(caught.exception.four), repr(tuple(four)))

    def test_no_lot(self):
        # Two behind one; a fourth unrelated to all, or related to one of both.
        self.no_lot("abcd", "ba bc", "abcd")
        self.no_lot("abcd", "ba bc da", "abcd")
        # Two ahead of one.
        self.no_lot("abcd", "ab cb", "abcd")
        self.no_lot("abcd", "ab cb ad", "abcd")
        # A fourth one that is related to both, or to the one, stands in no way.
        self.check("abcd", "ba bc da dc", 1)
        self.check("abcd", "ba bc db da dc", 0)
        self.check("abcd", "ba bc bd", 0)
        self.check("abcd", "ba bc ad bd", 0)

    def test_the_least_four(self):
        def proves(order, x, y, z, w):
            related = lambda one, other: (one, other) in order or (other, one) in order
            both = (x, y) in order and (x, z) in order or (y, x) in order and (z, x) in order
            return both and not related(y, z) and not related(x, w) and [related(y, w), related(z, w)] != [True, True]

        dice = Random(5)
        found = set()
        for _ in range(400):
            tags = sorted(dice.sample("abcdefghij", dice.randint(4, 7)))
            line = dice.sample(tags, len(tags))
            order = {(one, other) for one, other in combinations(line, 2) if dice.random() < 0.4}
            for middle in line:
                order |= {(one, other) for one, there in list(order) if there == middle for here, other in list(order) if here == middle}
            fours = [four for four in combinations(tags, 4) if any(proves(order, *row) for row in permutations(four))]
            text = " ".join(one + other for one, other in order)
            found.add(bool(fours))
            if fours:
                self.no_lot(tags, text, min(fours))
            else:
                lot = lot_for(tuple(tags), tuple(sorted(order)))
                self.assertEqual([pair for pair in told_order(lot) if pair[0] in tags and pair[1] in tags], sorted(order))
        self.assertEqual(found, {True, False})

    def no_order(self, tags, pairs, pair):
        with self.subTest(tags=tags, pairs=pairs), self.assertRaises(NotOrder) as caught:
            lot_for(tuple(tags), tuple(sorted(pairs_in(pairs))))
        self.assertEqual(repr(caught.exception.pair), repr(tuple(pair)))

    def test_no_order(self):
        self.no_order("ab", "aa", "aa")
        self.no_order("ab", "ab ba", "aa")
        self.no_order("abc", "bc cb", "bb")
        self.no_order("abc", "ab bc", "ac")
        self.no_order("abc", "ab bc ca", "ac")
        # The least of several: missing ones and others.
        self.no_order("abcd", "bc cd dd", "bd")
        self.no_order("abcd", "bb bc cd", "bb")
        self.no_order("abcd", "cd db ac", "ad")

    def test_no_order_ahead_of_no_lot(self):
        self.no_order("abcdef", "ab ac ef fe", "ee")
        self.no_order("abcdef", "ab ac de ef", "df")

    def test_lists_and_names_of_arguments(self):
        tags, pairs = ("a", "b", "c"), (("a", "c"), ("b", "c"))
        lot = lot_for(tags, pairs)
        given = [as_lists(tags), as_lists(pairs)]
        copies = deepcopy(given)
        self.assertEqual(repr(lot_for(*given)), repr(lot))
        self.assertEqual(given, copies)
        self.assertEqual(lot_for(pairs=pairs, tags=tags), lot)


if __name__ == "__main__":
    unittest.main()
