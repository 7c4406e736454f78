"""Points 25 to 27 and 34: entries, the store that keeps them, and the bounds of its pages."""

import copy
import itertools
import unittest

from curveyard.errors import NoEntry, Twice
from curveyard.store import Store
from tests.samples import check_pages, entry_order, scattered, shuffled

SIZES = range(4, 13)
NAMES = ("a", "aa", "ab", "abc", "b", "ba", "bbbbbbbbbbbb", "c", "z", "zz")


def many_entries(count):
    """Entries in order, some with the same first and some with the same name."""
    found = [(step // 3, step // 3 + step % 7, NAMES[step % 3 * 3 + step % 2]) for step in range(count)]
    return sorted(found, key=entry_order)


def orders(values, salt):
    """Values that are in order: rising, falling, from both ends in turn, and mixed."""
    ends = [values[at // 2] if at % 2 else values[-1 - at // 2] for at in range(len(values))]
    return (list(values), values[::-1], ends, shuffled(values, salt))


def stored(size, entries):
    store = Store(size)
    for entry in entries:
        store.put(entry)
    return store


def depth_of(shape):
    kind, things = shape
    return 1 if kind == "leaf" else 1 + depth_of(things[0][2])


class Checked(unittest.TestCase):
    def check_store(self, store, size, entries):
        """That a store tells just these entries, in order, and keeps its bounds."""
        wanted = sorted(entries, key=entry_order)
        self.assertEqual(store.listed(), wanted)
        self.assertEqual(check_pages(self, store.shape(), size), wanted)

    def refused(self, error, deed, entry, store):
        listed, shape = store.listed(), store.shape()
        with self.assertRaises(error, msg=entry) as caught:
            deed(entry)
        self.assertIs(type(caught.exception), error)
        self.assertEqual(store.listed(), listed)
        self.assertEqual(store.shape(), shape)


class Pages(Checked):
    def test_the_empty_store(self):
        for size in SIZES:
            store = Store(size)
            self.assertEqual(store.shape(), ("leaf", []))
            self.assertEqual(store.listed(), [])
            self.assertEqual(store.crossing(0, 10 ** 40), [])

    def test_as_many_as_a_page_holds_are_one_leaf(self):
        for size in SIZES:
            entries = many_entries(size)
            for order in orders(entries, size):
                store = Store(size)
                for count, entry in enumerate(order, 1):
                    store.put(entry)
                    self.assertEqual(store.shape(), ("leaf", sorted(order[:count], key=entry_order)))

    def test_one_leaf_as_long_as_there_never_were_more(self):
        for size in SIZES:
            store = Store(size)
            kept = []
            for entry in shuffled(many_entries(60), size):
                if len(kept) == size:
                    for old in kept[::2]:
                        store.take(old)
                    kept = kept[1::2]
                store.put(entry)
                kept.append(entry)
                self.assertEqual(store.shape(), ("leaf", sorted(kept, key=entry_order)))

    def test_one_more_than_a_page_holds(self):
        for size in SIZES:
            entries = many_entries(size + 1)
            for order in orders(entries, size):
                store = stored(size, order)
                kind, things = store.shape()
                self.assertEqual((kind, len(things)), ("branch", 2))
                self.check_store(store, size, entries)

    def test_a_shape_of_told_pages(self):
        store = stored(4, [(1, 9, "a"), (2, 3, "b"), (2, 4, "a"), (7, 7, "a"), (5, 30, "c")])
        kind, things = store.shape()
        self.assertEqual(kind, "branch")
        self.assertEqual([told[0] for told in things], [(1, 9, "a"), (min(things[1][2][1], key=entry_order))])
        self.assertEqual(sum([told[2][1] for told in things], []),
                         [(1, 9, "a"), (2, 4, "a"), (2, 3, "b"), (5, 30, "c"), (7, 7, "a")])
        for least, most, (inner, entries) in things:
            self.assertEqual((inner, most), ("leaf", max(entry[1] for entry in entries)))

    def test_bounds_behind_every_put_and_take(self):
        for size in SIZES:
            entries = many_entries(70)
            for put_order, take_order in itertools.product(orders(entries, size), orders(entries, size + 50)):
                store = Store(size)
                kept = []
                for entry in put_order:
                    store.put(entry)
                    kept.append(entry)
                    self.check_store(store, size, kept)
                for entry in take_order:
                    store.take(entry)
                    kept.remove(entry)
                    self.check_store(store, size, kept)
                self.assertEqual(store.shape(), ("leaf", []))

    def test_puts_and_takes_mixed(self):
        # Sizes somewhat beyond those of point 3 are not refused either.
        for size in (2, 3, *SIZES, 13, 20):
            entries = many_entries(90)
            store = Store(size)
            kept = {}
            for at in scattered(700, 90, size):
                entry = entries[at]
                if entry in kept:
                    store.take(entry)
                    kept.pop(entry)
                else:
                    store.put(entry)
                    kept[entry] = True
                self.check_store(store, size, kept)

    def test_many_entries(self):
        for size in (4, 7, 12):
            entries = [(number, number + 2, "a") for number in shuffled(range(1500), size)]
            store = Store(size)
            for count, entry in enumerate(entries, 1):
                store.put(entry)
                if count % 100 == 0:
                    self.check_store(store, size, entries[:count])
            self.assertGreaterEqual(depth_of(store.shape()), 3)
            for count, entry in enumerate(shuffled(entries, 5), 1):
                store.take(entry)
                if count % 100 == 0:
                    self.check_store(store, size, shuffled(entries, 5)[count:])
            self.assertEqual(store.shape(), ("leaf", []))

    def test_the_greatest_last_is_told_anew(self):
        # The widest entry stands far ahead in its page, so its last is not that of the page's greatest entry.
        for size in SIZES:
            entries = [(number, number, "a") for number in range(60)]
            wide = [(number, 1000 + number, "b") for number in (0, 7, 20, 33, 59)]
            store = stored(size, entries)
            for entry in wide:
                store.put(entry)
                self.check_store(store, size, entries + wide[:wide.index(entry) + 1])
            for count, entry in enumerate(wide[::-1], 1):
                store.take(entry)
                self.check_store(store, size, entries + wide[:-count])


class Order(Checked):
    def test_the_same_first_and_unlike_names(self):
        for size in SIZES:
            for order in orders(list(NAMES), size):
                store = stored(size, [(5, 5 + len(name), name) for name in order])
                self.assertEqual([entry[2] for entry in store.listed()], list(NAMES))
                self.check_store(store, size, [(5, 5 + len(name), name) for name in NAMES])

    def test_the_same_name_and_unlike_firsts(self):
        for size in SIZES:
            firsts = [0, 1, 2, 9, 10, 11, 99, 100, 2 ** 119, 2 ** 120 - 1]
            for order in orders(firsts, size):
                store = stored(size, [(first, 2 ** 121 - first, "same") for first in order])
                self.assertEqual([entry[0] for entry in store.listed()], firsts)

    def test_the_last_does_not_count(self):
        store = stored(4, [(3, 3, "c"), (3, 9, "a"), (3, 4, "b"), (2, 99, "d"), (4, 4, "a"), (2, 2, "e")])
        self.assertEqual(store.listed(), [
            (2, 99, "d"), (2, 2, "e"), (3, 9, "a"), (3, 4, "b"), (3, 3, "c"), (4, 4, "a"),
        ])

    def test_names_by_their_letters_and_not_by_their_lengths(self):
        store = stored(4, [(0, 0, name) for name in ("b", "aaaaaaaaaaaa", "ab", "zz", "z", "a")])
        self.assertEqual([entry[2] for entry in store.listed()], ["a", "aaaaaaaaaaaa", "ab", "b", "z", "zz"])


class Refused(Checked):
    def test_twice(self):
        for size in SIZES:
            entries = many_entries(60)
            store = Store(size)
            for entry in entries:
                store.put(entry)
                self.refused(Twice, store.put, entry, store)
            for first, last, name in entries:
                for other in (first, last, last + 1, last + 1000):
                    self.refused(Twice, store.put, (first, other, name), store)
            self.check_store(store, size, entries)

    def test_no_entry(self):
        for size in SIZES:
            store = Store(size)
            self.refused(NoEntry, store.take, (0, 0, "a"), store)
            entries = [(10 * k, 10 * k + 5, name) for k in range(20) for name in ("b", "dd")]
            for entry in entries:
                store.put(entry)
            for first, last, name in entries:
                for entry in ((first, last + 1, name), (first, last - 1, name), (first, first, name),
                              (first, last, "a"), (first, last, "c"), (first, last, "d"), (first, last, "ddd"),
                              (first - 1, last, name), (first + 1, last, name)):
                    self.refused(NoEntry, store.take, entry, store)
            self.check_store(store, size, entries)
            self.refused(NoEntry, store.take, (-1, 0, "b"), store)
            self.refused(NoEntry, store.take, (10 ** 9, 10 ** 9, "b"), store)

    def test_taken_only_once(self):
        for size in SIZES:
            entries = many_entries(40)
            store = stored(size, entries)
            for entry in shuffled(entries, size):
                store.take(entry)
                self.refused(NoEntry, store.take, entry, store)

    def test_numbers_of_thousands_of_figures(self):
        # Python itself does not write numbers of this length, so no refusal may try to.
        far = 10 ** 5000
        store = stored(4, [(far, far, "a")])
        self.refused(Twice, store.put, (far, far + 1, "a"), store)
        self.refused(NoEntry, store.take, (far, far + 1, "a"), store)
        store.take((far, far, "a"))

    def test_behind_a_refusal_all_goes_on(self):
        store = stored(4, [(1, 5, "a")])
        self.refused(Twice, store.put, (1, 7, "a"), store)
        self.refused(NoEntry, store.take, (1, 7, "a"), store)
        store.take((1, 5, "a"))
        store.put((1, 7, "a"))
        self.assertEqual(store.listed(), [(1, 7, "a")])


class Crossing(Checked):
    def test_told_ones(self):
        for size in SIZES:
            store = stored(size, [(5, 9, "a"), (12, 12, "b"), (0, 2, "c"), (0, 100, "d"), (20, 30, "a"), (12, 40, "e")])
            self.assertEqual(store.crossing(0, 0), [(0, 2, "c"), (0, 100, "d")])
            self.assertEqual(store.crossing(3, 4), [(0, 100, "d")])
            self.assertEqual(store.crossing(9, 12), [(0, 100, "d"), (5, 9, "a"), (12, 12, "b"), (12, 40, "e")])
            self.assertEqual(store.crossing(10, 11), [(0, 100, "d")])
            self.assertEqual(store.crossing(13, 19), [(0, 100, "d"), (12, 40, "e")])
            self.assertEqual(store.crossing(30, 30), [(0, 100, "d"), (12, 40, "e"), (20, 30, "a")])
            self.assertEqual(store.crossing(31, 31), [(0, 100, "d"), (12, 40, "e")])
            self.assertEqual(store.crossing(100, 200), [(0, 100, "d")])
            self.assertEqual(store.crossing(101, 200), [])
            self.assertEqual(store.crossing(0, 1000), store.listed())

    def test_every_stretch(self):
        for size in SIZES:
            firsts = scattered(60, 35, size)
            reaches = scattered(60, 4, size + 20)
            entries = {}
            for at in range(60):
                # Every ninth entry reaches far over the ones behind it.
                reach = 25 if at % 9 == 0 else reaches[at]
                entry = (firsts[at], firsts[at] + reach, NAMES[at % len(NAMES)])
                entries.setdefault(entry_order(entry), entry)
            store = stored(size, entries.values())
            for first, last in itertools.combinations_with_replacement(range(-1, 66), 2):
                wanted = [entry for entry in store.listed()
                          if set(range(first, last + 1)) & set(range(entry[0], entry[1] + 1))]
                self.assertEqual(store.crossing(first, last), wanted, (size, first, last))

    def test_behind_deeds(self):
        for size in (4, 5, 12):
            entries = shuffled(many_entries(80), size)
            store = stored(size, entries)
            for count, entry in enumerate(entries[:-3], 1):
                store.take(entry)
                for first, last in ((0, 0), (5, 6), (13, 13), (20, 40), (0, 99)):
                    wanted = [left for left in entries[count:] if left[0] <= last and left[1] >= first]
                    self.assertEqual(store.crossing(first, last), sorted(wanted, key=entry_order))

    def test_great_numbers(self):
        far = 2 ** 180
        store = stored(4, [(far - 1, far - 1, "a"), (0, far, "b"), (far // 2, far // 2, "c")])
        self.assertEqual(store.crossing(far, far + 7), [(0, far, "b")])
        self.assertEqual(store.crossing(far - 1, far - 1), [(0, far, "b"), (far - 1, far - 1, "a")])
        self.assertEqual(store.crossing(1, far // 2), [(0, far, "b"), (far // 2, far // 2, "c")])


class Answers(Checked):
    def test_kinds(self):
        for count in (0, 3, 40):
            store = stored(4, many_entries(count))
            for found in (store.listed(), store.crossing(0, 1000), store.crossing(3, 4)):
                self.assertIs(type(found), list)
                self.assertTrue(all(type(entry) is tuple for entry in found))
            check_pages(self, store.shape(), 4)

    def test_answers_stay_as_they_were_told(self):
        for size in SIZES:
            entries = many_entries(50)
            store = stored(size, entries)
            answers = (store.listed(), store.crossing(2, 9), store.shape())
            before = copy.deepcopy(answers)
            for entry in entries[::2]:
                store.take(entry)
            for number in range(30):
                store.put((number, number, "new"))
            for entry in entries[1::2]:
                store.take(entry)
            self.assertEqual(answers, before)

    def test_a_changed_answer_changes_nothing(self):
        for size in SIZES:
            for count in (0, 2, 50):
                entries = many_entries(count)
                store = stored(size, entries)
                before = store.shape()
                store.listed().append((0, 0, "more"))
                store.listed().clear()
                store.crossing(0, 1000).clear()
                self.spoil(store.shape())
                self.assertEqual(store.shape(), before)
                self.check_store(store, size, entries)
                self.assertEqual(store.crossing(0, 1000), entries)
                store.put((3, 3, "other"))
                self.check_store(store, size, entries + [(3, 3, "other")])

    def spoil(self, shape):
        kind, things = shape
        if kind == "branch":
            for least, most, inner in things:
                self.spoil(inner)
        things.clear()
        things.append("spoiled")

    def test_stores_stand_apart(self):
        one, other = Store(4), Store(4)
        one.put((1, 1, "a"))
        self.assertEqual(other.listed(), [])
        other.put((1, 2, "a"))
        self.assertEqual(one.listed(), [(1, 1, "a")])
        one.take((1, 1, "a"))
        self.assertEqual(other.shape(), ("leaf", [(1, 2, "a")]))


if __name__ == "__main__":
    unittest.main()
