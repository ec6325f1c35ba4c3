"""Point 7: a store as a text, read again."""

import unittest

from gapfill.errors import NoCount, NoText
from gapfill.stores import Store
from gapfill.storetexts import read_store
from tests.runs import worlds
from tests.test_stores import ALL, stand, stored
from tests.things import refused, strangers

ROWS = ("tell,one", "tell,two", "word", "own", "skip,9", "heard,hey,no", "got,5", "lost", "heard,ho,yes", "round,6", "word",
        "got,4", "skip,7", "own")


class ReadStore(unittest.TestCase):
    def reads(self, text, *entries):
        for told in (read_store(text), read_store(text=text)):
            self.assertIs(type(told), Store)
            self.assertEqual(repr(told.entries()), repr(entries))
            self.assertEqual(stand(told), stand(stored(*entries)))
            self.assertEqual(str(told), text)

    def test_without_signs(self):
        self.reads("")
        self.assertEqual(read_store(""), Store())
        self.assertIsNot(read_store(""), read_store(""))

    def test_each_entry(self):
        self.reads("tell,ab 1", ("tell", "ab 1"))
        self.reads("tell,a\nword", ("tell", "a"), ("word",))
        self.reads("own", ("own",))
        self.reads("lost", ("lost",))
        self.reads("skip,2", ("skip", 2))
        self.reads("skip,10000", ("skip", 10000))
        self.reads("got,2", ("got", 2))
        self.reads("got,10000", ("got", 10000))
        self.reads("round,1", ("round", 1))
        self.reads("got,10000\nround,10000", ("got", 10000), ("round", 10000))
        for doubt, text in ((True, "yes"), (False, "no")):
            self.reads(f"heard,x,{text}", ("heard", "x", doubt))

    def test_texts_that_look_like_other_parts(self):
        for text in ("yes", "no", "7", "007", " ", "  a", "a  ", "word", "a" * 20):
            self.reads(f"tell,{text}", ("tell", text))
            self.reads(f"heard,{text},yes", ("heard", text, True))
            self.reads(f"heard,{text},no", ("heard", text, False))

    def test_all_together(self):
        self.reads(str(stored(*ALL)), *ALL)
        for many in range(len(ALL)):
            self.reads(str(stored(*ALL[:many])), *ALL[:many])
        self.assertEqual(len(read_store("\n".join(ROWS))), len(ROWS))

    def test_written_and_read_back_in_runs(self):
        for _, world in worlds(60, resets=True, cuts=True):
            for name in "ab":
                store = world.side(name).store()
                told = read_store(str(store))
                self.assertEqual(told, store)
                self.assertEqual(stand(told), stand(store))

    def test_behind_a_cut(self):
        for many in range(6):
            store = stored(*ALL)
            store.cut(many)
            self.reads(str(store), *store.entries())
            self.assertEqual(read_store(str(store)), store)
            told = read_store(str(stored(*ALL)))
            told.cut(many)
            self.assertEqual(stand(told), stand(store))
        for many in (6, 7, len(ALL)):
            refused(self, NoCount, read_store(str(stored(*ALL))).cut, many)

    def test_a_store_that_goes_on(self):
        store = read_store("tell,a")
        store.put(("word",))
        self.assertEqual(str(store), "tell,a\nword")
        self.assertEqual(read_store("tell,a").entries(), (("tell", "a"),))


class Refused(unittest.TestCase):
    def not_read(self, why, text):
        self.assertEqual(repr(refused(self, NoText, read_store, text).why), repr(why))
        self.assertEqual(repr(refused(self, NoText, read_store, text=text).why), repr(why))

    def test_no_text(self):
        for thing in [thing for thing in strangers() if type(thing) is not str] + [("own",), ["own"], b"own", Store(), True, 0]:
            self.not_read(0, thing)

    def odd(self, *rows):
        """Each of these rows is refused by its number, wherever it stands."""
        for row in rows:
            self.not_read(0, row)
            self.not_read(0, f"{row}\nown\n{row}")
            for at in range(len(ROWS) + 1):
                self.not_read(at, "\n".join(ROWS[:at] + (row,) + ROWS[at:]))

    def test_other_words(self):
        self.odd("owns", "Own", " own", "own ", "ask", "bye", "say,a", "yes", "7", "skip 9", "tell=a", "heard", "Tell,a",
                 "lost\r", "own\t", ",", ",own", "None")

    def test_empty_rows(self):
        for at in range(1, len(ROWS) + 1):
            self.not_read(at, "\n".join(ROWS[:at] + ("",) + ROWS[at:]))
        self.not_read(0, "\n")
        self.not_read(0, "\nown")
        self.not_read(1, "own\n")
        self.not_read(1, "own\n\nown")

    def test_noughts_ahead_and_other_numbers(self):
        for number in ("09", "010", "00", "-9", "+9", "9.0", "nine", "", " 9", "9 ", "0x9", "1_0", "\u0669", "10001",
                       "99999", "100000", "9" * 5000, "0" + "9" * 4999,
                       "yes", "no", "True", "None"):
            self.odd(f"skip,{number}", f"got,{number}", f"round,{number}")
        self.odd("skip,0", "got,0", "round,0")

    def test_texts_and_truths(self):
        for text in ("", "A", "a" * 21, "a|b", "a=b", "a.", "\u0661", "a\t"):
            self.odd(f"tell,{text}", f"heard,{text},no")
        for doubt in ("", "Yes", "NO", "true", "True", "1", "0", "y", " yes", "no ", "None"):
            self.odd(f"heard,x,{doubt}")

    def test_parts_more_or_less(self):
        self.odd("tell", "tell,a,b", "tell,a,", "word,", "word,1", "word,a", "own,", "own,1", "skip", "skip,99,",
                 "skip,99,100", "heard,x", "heard", "heard,no",
                 "heard,x,no,", "heard,x,no,no", "heard,x,y,no", "got", "got,99,", "got,99,99", "round", "round,1,1",
                 "lost,", "lost,yes")

    def test_what_can_t_be_put(self):
        self.not_read(0, "word")
        self.not_read(2, "tell,a\nword\nword")
        self.not_read(2, "own\nskip,9\nskip,9")
        self.not_read(2, "own\nskip,9\nskip,8")
        self.not_read(0, "skip,1")
        self.not_read(1, "own\nskip,2")
        self.not_read(0, "got,1")
        self.not_read(1, "heard,x,no\ngot,2")
        self.not_read(2, "got,7\nown\ngot,7")
        self.not_read(0, "round,2")
        self.not_read(1, "got,7\nround,1")
        self.not_read(2, "got,7\nround,7\nround,7")

    def test_the_first_of_several(self):
        self.not_read(1, "own\nowns\nown\nword\n")
        self.not_read(3, "own\nown\nown\nword\nowns")


if __name__ == "__main__":
    unittest.main()
