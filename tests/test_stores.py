"""Points 6 and 7: stores, entry by entry, together, cut, alike, and as texts."""

import unittest

from gapfill.errors import NoCount, NoEntry, NoStore
from gapfill.stores import Store, need_store
from tests.things import put_otherwise, refused, strangers

# Every word of an entry, in a turn in which each may come.
ALL = (
    ("tell", "one"), ("tell", "two"), ("tell", "three"),
    ("word",), ("own",), ("word",), ("skip", 9), ("heard", "hey", False), ("got", 5), ("lost",),
    ("heard", "ho", True), ("round", 6), ("own",), ("word",), ("got", 4), ("lost",), ("heard", "ha 1", False),
)
NUMBERS = ("round", "next_out", "next_in", "past", "waiting", "words", "doubtful", "heard")


def stand(store):
    """All that a store tells."""
    return tuple([getattr(store, name)() for name in NUMBERS]) + (store.entries(), len(store), repr(store), bool(store))


def stored(*entries):
    store = Store()
    for entry in entries:
        store.put(entry)
    return store


class StoreCase(unittest.TestCase):
    def stands(self, store, **told):
        for name in NUMBERS:
            value = told.get(name, {"round": 0, "next_out": 1, "next_in": 1, "past": 0, "waiting": (), "words": (),
                                    "doubtful": False, "heard": ()}[name])
            found = getattr(store, name)()
            self.assertEqual(repr(found), repr(value), name)

    def not_put(self, store, thing):
        """Refused by put and by put_all, and nothing is changed."""
        before = stand(store)
        refused(self, NoEntry, store.put, thing)
        refused(self, NoEntry, store.put, entry=thing)
        refused(self, NoEntry, store.put_all, (thing,))
        refused(self, NoEntry, store.put_all, (("own",), ("lost",), thing, ("lost",)))
        self.assertEqual(stand(store), before)


class Put(StoreCase):
    def test_at_first(self):
        store = Store()
        self.stands(store)
        self.assertEqual((store.entries(), len(store), repr(store), bool(store)), ((), 0, "Store(0)", False))

    def test_tell(self):
        self.stands(stored(("tell", "hi"), ("tell", "a 1"), ("tell", "hi")), waiting=("hi", "a 1", "hi"))

    def test_word_takes_the_first_that_waits_and_the_next_number(self):
        store = stored(("tell", "one"), ("tell", "two"), ("word",))
        self.stands(store, next_out=2, waiting=("two",), words=((1, "one"),))
        store.put(("own",))
        store.put(("word",))
        self.stands(store, next_out=4, words=((1, "one"), (3, "two")))

    def test_own_takes_the_next_number(self):
        self.stands(stored(("own",), ("own",)), next_out=3)

    def test_skip(self):
        store = stored(("own",), ("skip", 3))
        self.stands(store, next_out=3)
        store.put(("skip", 10000))
        self.stands(store, next_out=10000)
        self.stands(stored(("skip", 2)), next_out=2)

    def test_heard(self):
        store = stored(("heard", "hi", False))
        self.stands(store, next_in=2, heard=((0, 1, "hi", False),))
        store.put(("heard", "hi", True))
        self.stands(store, next_in=3, heard=((0, 1, "hi", False), (0, 2, "hi", True)))

    def test_got(self):
        store = stored(("got", 2))
        self.stands(store, next_in=2)
        store.put(("got", 10000))
        self.stands(store, next_in=10000)

    def test_round(self):
        store = stored(("tell", "one"), ("tell", "two"), ("word",), ("heard", "hi", False), ("got", 7), ("lost",))
        store.put(("round", 7))
        self.stands(store, round=1, past=7, waiting=("two",), heard=((0, 1, "hi", False),))
        store.put(("round", 1))
        self.stands(store, round=2, past=1, waiting=("two",), heard=((0, 1, "hi", False),))
        store.put(("word",))
        store.put(("heard", "ho", False))
        self.stands(store, round=2, past=1, next_out=2, next_in=2, words=((1, "two"),),
                    heard=((0, 1, "hi", False), (2, 1, "ho", False)))

    def test_lost(self):
        store = stored(("lost",))
        self.stands(store, doubtful=True)
        store.put(("lost",))
        store.put(("own",))
        self.stands(store, doubtful=True, next_out=2)
        store.put(("round", 1))
        self.stands(store, round=1, past=1)

    def test_all_one_by_one_and_together(self):
        one, all_at_once = Store(), Store()
        for at, entry in enumerate(ALL):
            self.assertIsNone(one.put(entry))
            self.assertEqual(one.entries(), ALL[:at + 1])
            self.assertEqual((len(one), repr(one), bool(one)), (at + 1, f"Store({at + 1})", True))
        self.assertIsNone(all_at_once.put_all(ALL))
        self.assertEqual(stand(one), stand(all_at_once))
        self.stands(one, round=1, next_out=3, next_in=5, past=6, words=((2, "three"),), doubtful=True,
                    heard=((0, 1, "hey", False), (0, 5, "ho", True), (1, 4, "ha 1", False)))
        self.assertIs(type(one.entries()), tuple)

    def test_all_behind_others_and_by_name(self):
        store = Store()
        store.put(entry=ALL[0])
        store.put_all(entries=ALL[1:9])
        store.put_all(ALL[9:])
        store.put_all(())
        self.assertEqual(stand(store), stand(stored(*ALL)))

    def test_many_numbers(self):
        store = Store()
        store.put_all((("tell", "hi"),) * 3000 + (("word",),) * 3000 + (("heard", "ho", False),) * 3000)
        self.assertEqual((store.next_out(), store.next_in(), len(store)), (3001, 3001, 9000))
        self.assertEqual(store.words()[-1], (3000, "hi"))


class NotPut(StoreCase):
    def test_things_of_all_kinds(self):
        for store in (Store(), stored(*ALL)):
            for thing in strangers() + (True, 7, "lost", "own", ["own"], [("own",)], ("Own",), ("owns",)):
                self.not_put(store, thing)

    def test_one_thing_put_otherwise(self):
        # No word waits in the store: so a word, which stands among the others, may not come either.
        for entry in (("tell", "hi"), ("word",), ("own",), ("heard", "hi", False), ("lost",), ("skip", 12), ("got", 12),
                      ("round", 7)):
            for thing in put_otherwise(entry):
                self.not_put(stored(("own",), ("skip", 8), ("got", 7)), thing)

    def test_longer_and_shorter_ones(self):
        for thing in (("tell",), ("tell", "a", "b"), ("word", 1), ("word", "hi"), ("own", 1), ("skip",), ("skip", 9, 10),
                      ("heard",), ("heard", "hi"), ("heard", "hi", False, False), ("got",), ("got", 9, 9), ("round",),
                      ("round", 1, 1), ("lost", 1), ("lost", None)):
            self.not_put(stored(("tell", "hi")), thing)

    def test_texts(self):
        for text in ("", "Hi", "a" * 21, "a,b", "a\n", "\u0661", 7, None, ("hi",), b"hi"):
            self.not_put(Store(), ("tell", text))
            self.not_put(Store(), ("heard", text, False))

    def test_doubts(self):
        for doubt in (0, 1, None, "yes", "no", (), (True,)):
            self.not_put(Store(), ("heard", "hi", doubt))

    def test_word_where_none_waits(self):
        self.not_put(stored(("own",)), ("bye",))
        for store in (Store(), stored(("tell", "hi"), ("word",)), stored(("own",), ("skip", 5))):
            before = stand(store)
            refused(self, NoEntry, store.put, ("word",))
            refused(self, NoEntry, store.put_all, (("word",), ("tell", "hi")))
            refused(self, NoEntry, store.put_all, (("tell", "hi"), ("word",), ("word",)))
            self.assertEqual(stand(store), before)

    def test_numbers_that_are_not_above(self):
        store = stored(("skip", 5), ("got", 4))
        for number in (5, 4, 1, 0, -1, 10001, 10 ** 40, "6", None, True, (6,)):
            self.not_put(store, ("skip", number))
        for number in (4, 3, 1, 0, -1, 10001, 10 ** 40, "6", None, True, (6,)):
            self.not_put(store, ("got", number))
        self.not_put(Store(), ("skip", 1))
        self.not_put(Store(), ("got", 1))
        self.not_put(Store(), ("got", True))

    def test_another_past(self):
        for store, awaited in ((Store(), 1), (stored(("got", 4)), 4), (stored(("got", 4), ("round", 4)), 1),
                               (stored(("skip", 9), ("heard", "hi", False)), 2), (stored(("got", 10000)), 10000)):
            for number in {0, 1, 2, 3, 4, 5, 9, -1, 9999, 10000, 10001} - {awaited}:
                self.not_put(store, ("round", number))
            for thing in (str(awaited), None, (awaited,), awaited == 1):
                self.not_put(store, ("round", thing))
            store.put(("round", awaited))

    def test_all_of_a_tuple_or_none(self):
        for store in (Store(), stored(*ALL)):
            before = stand(store)
            for things in (None, [], [("own",)], [("own",), ("lost",)], "own", ("own",), {("own",): 1}, {("own",)}, 7, True,
                           iter((("own",),)), (("own",), "own"), ((("own",),),), ("tell", "hi"), Store()):
                refused(self, NoEntry, store.put_all, things)
                refused(self, NoEntry, store.put_all, entries=things)
            for thing in strangers():
                if type(thing) is not tuple or len(thing) > 0:
                    refused(self, NoEntry, store.put_all, thing)
            self.assertEqual(stand(store), before)

    def test_none_where_the_last_may_not_come(self):
        for behind in range(len(ALL)):
            store = stored(*ALL[:behind])
            before = stand(store)
            refused(self, NoEntry, store.put_all, ALL[behind:] + (("got", 1),))
            self.assertEqual(stand(store), before)
            store.put_all(ALL[behind:])
            self.assertEqual(stand(store), stand(stored(*ALL)))


class Cut(StoreCase):
    def test_by_nought(self):
        for store in (Store(), stored(*ALL), stored(("round", 1))):
            before = stand(store)
            self.assertIsNone(store.cut(0))
            self.assertEqual(stand(store), before)

    def test_by_some(self):
        for behind in range(1, 12):
            store = stored(*ALL[:11])
            self.assertIsNone(store.cut(many=behind))
            self.assertEqual(stand(store), stand(stored(*ALL[:11 - behind] + (("lost",),))))
            self.assertIs(store.doubtful(), True)

    def test_by_all_behind_the_last_round(self):
        store = stored(*ALL)
        store.cut(5)
        self.assertEqual(stand(store), stand(stored(*ALL[:12] + (("lost",),))))
        self.stands(store, round=1, past=6, waiting=("three",), doubtful=True,
                    heard=((0, 1, "hey", False), (0, 5, "ho", True)))

    def test_a_word_waits_again_and_a_number_is_taken_again(self):
        store = stored(("tell", "one"), ("tell", "two"), ("word",), ("word",), ("heard", "hi", False))
        store.cut(2)
        self.stands(store, next_out=2, waiting=("two",), words=((1, "one"),), doubtful=True)
        store.put(("word",))
        self.stands(store, next_out=3, words=((1, "one"), (2, "two")), doubtful=True)

    def test_again(self):
        store = stored(("own",), ("got", 3))
        store.cut(1)
        store.cut(1)
        self.assertEqual(store.entries(), (("own",), ("lost",)))
        store.cut(2)
        self.assertEqual(store.entries(), (("lost",),))

    def test_by_too_many(self):
        for store, most in ((Store(), 0), (stored(("own",)), 1), (stored(*ALL), 5), (stored(*ALL[:11]), 11),
                            (stored(*ALL[:12]), 0), (stored(*ALL[:13]), 1)):
            before = stand(store)
            for many in (most + 1, most + 2, len(store) + 1, 10 ** 40):
                refused(self, NoCount, store.cut, many)
                refused(self, NoCount, store.cut, many=many)
            self.assertEqual(stand(store), before)

    def test_a_cut_store_has_as_many_as_stand_there(self):
        store = stored(*ALL)
        store.cut(3)
        for many in (4, 5):
            refused(self, NoCount, store.cut, many)
        store.cut(3)
        self.assertEqual(store.entries(), ALL[:12] + (("lost",),))

    def test_by_what_is_no_count(self):
        store = stored(*ALL)
        before = stand(store)
        for thing in strangers() + (True, False, "1", -1, (1,), [1]):
            refused(self, NoCount, store.cut, thing)
        self.assertEqual(stand(store), before)


class Alike(StoreCase):
    def test_where_the_entries_are(self):
        for behind in range(len(ALL) + 1):
            self.assertIs(stored(*ALL[:behind]) == stored(*ALL[:behind]), True)
            self.assertIs(stored(*ALL[:behind]) != stored(*ALL[:behind]), False)
            for other in range(behind):
                self.assertIs(stored(*ALL[:behind]) == stored(*ALL[:other]), False)
                self.assertIs(stored(*ALL[:other]) == stored(*ALL[:behind]), False)
        one = stored(("own",))
        self.assertIs(one == one, True)

    def test_as_far_as_entries_go_not_numbers(self):
        self.assertIs(stored(("own",)) == stored(("skip", 2)), False)
        self.assertIs(stored(("heard", "hi", True)) == stored(("heard", "hi", False)), False)
        self.assertIs(stored(("tell", "a")) == stored(("tell", "b")), False)
        cut = stored(("own",), ("own",))
        cut.cut(1)
        self.assertIs(cut == stored(("own",), ("lost",)), True)

    def test_against_other_things(self):
        for store in (Store(), stored(*ALL)):
            for thing in strangers() + (store.entries(), list(store.entries()), len(store), repr(store), Store, False):
                self.assertIs(store.__eq__(thing), False)
                self.assertIs(store == thing, False)
                self.assertIs(store != thing, True)
            for thing in (None, (), [], 0, "", "Store(0)", store.entries(), len(store)):
                self.assertIs(thing == store, False)

    def test_alike_ones_stand_by_themselves(self):
        one, other = stored(*ALL), stored(*ALL)
        one.put(("own",))
        self.assertIs(one == other, False)
        self.assertEqual(other.entries(), ALL)


class Text(StoreCase):
    """The first half of point 7; how a text is read again stands in test_storetexts."""

    def test_a_row_for_each_entry(self):
        rows = (
            "tell,one", "tell,two", "tell,three", "word", "own", "word", "skip,9", "heard,hey,no", "got,5", "lost",
            "heard,ho,yes", "round,6", "own", "word", "got,4", "lost", "heard,ha 1,no",
        )
        store = Store()
        for at, entry in enumerate(ALL):
            store.put(entry)
            self.assertEqual(str(store), "\n".join(rows[:at + 1]))
            self.assertEqual(f"{store}", str(store))
            self.assertEqual(repr(store), f"Store({at + 1})")

    def test_without_entries(self):
        self.assertEqual(str(Store()), "")
        self.assertEqual(repr(Store()), "Store(0)")

    def test_texts_that_look_like_other_parts(self):
        self.assertEqual(str(stored(("tell", "yes"), ("tell", "7"), ("tell", " "), ("tell", " a  b "), ("heard", "no", True))),
                         "tell,yes\ntell,7\ntell, \ntell, a  b \nheard,no,yes")

    def test_the_greatest_numbers(self):
        self.assertEqual(str(stored(("skip", 10000), ("got", 10000), ("round", 10000))), "skip,10000\ngot,10000\nround,10000")

    def test_behind_a_cut(self):
        for many, text in ((0, "own\ngot,3\nround,3\nown\ngot,9\ntell,hi"), (1, "own\ngot,3\nround,3\nown\ngot,9\nlost"),
                           (2, "own\ngot,3\nround,3\nown\nlost"), (3, "own\ngot,3\nround,3\nlost")):
            store = stored(("own",), ("got", 3), ("round", 3), ("own",), ("got", 9), ("tell", "hi"))
            store.cut(many)
            self.assertEqual(str(store), text)
            refused(self, NoCount, store.cut, 4)
            self.assertEqual(str(store), text)
        store = stored(("own",), ("own",))
        store.cut(2)
        self.assertEqual(str(store), "lost")

    def test_behind_refusals_and_tells_it_is_as_it_was(self):
        store = stored(("tell", "a"))
        refused(self, NoEntry, store.put, ("word", 1))
        refused(self, NoEntry, store.put_all, (("own",), ("got", 1)))
        text = str(store)
        store.put(("own",))
        self.assertEqual(text, "tell,a")
        self.assertEqual(store.entries(), (("tell", "a"), ("own",)))


class AsTold(StoreCase):
    def test_what_was_told_stays(self):
        store = stored(("tell", "one"), ("tell", "two"), ("word",), ("heard", "hi", False))
        told = [getattr(store, name)() for name in NUMBERS] + [store.entries()]
        shown = repr(told)
        store.put_all((("word",), ("heard", "ho", True), ("lost",)))
        store.cut(2)
        store.put(("round", 2))
        self.assertEqual(repr(told), shown)

    def test_rows_are_tuples(self):
        store = stored(*ALL)
        for name in ("entries", "waiting", "words", "heard"):
            self.assertIs(type(getattr(store, name)()), tuple)
        for name in ("entries", "words", "heard"):
            for row in getattr(store, name)():
                self.assertIs(type(row), tuple)

    def test_entries_handed_in_stay(self):
        entries = tuple(ALL)
        store = Store()
        store.put_all(entries)
        store.cut(3)
        self.assertEqual(entries, ALL)
        things = [["tell", "hi"], ["own"]]
        refused(self, NoEntry, store.put_all, things)
        refused(self, NoEntry, store.put, things[0])
        self.assertEqual(things, [["tell", "hi"], ["own"]])

    def test_methods_stand_in_the_class_itself(self):
        for name in NUMBERS + ("put", "put_all", "cut", "entries", "__len__", "__eq__", "__repr__", "__str__"):
            self.assertIn(name, vars(Store))
        self.assertEqual(Store.__module__, "gapfill.stores")


class NeedStore(StoreCase):
    def test_what_is_none(self):
        need_store(Store())

        class Derived(Store):
            pass

        class Lying:
            __class__ = Store

        for thing in strangers() + (Store, Derived(), Lying(), (("own",),), "Store(0)"):
            refused(self, NoStore, need_store, thing)


if __name__ == "__main__":
    unittest.main()
