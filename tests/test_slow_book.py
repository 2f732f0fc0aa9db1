"""Holds books against the slow book, over many drawn works and deeds."""
import random
import unittest

from batchpipe.book import Book
from batchpipe.errors import BadDeed, BadLater, NoDeed
from batchpipe.works import Works
from book_state import book_state
from drawing import WARES, drawn_bounds, drawn_deed, drawn_orders, drawn_pipe_and_fill, drawn_sources, drawn_tanks
from drawing import pipe_of
from slow_book import SlowBadLater, SlowBook, SlowNoDeed
from slow_works import SlowRefused, SlowWorks
from works_state import fast_state


def fast(ask):
    """What a book answers, as plain values, and a word for it."""
    try:
        return ("done", ask())
    except BadDeed as refused:
        return ("refused", refused.word)
    except NoDeed:
        return ("no deed",)
    except BadLater as refused:
        return ("later", refused.place, refused.word)


def slowly(ask):
    try:
        return ("done", ask())
    except SlowRefused as refused:
        return ("refused", refused.word)
    except SlowNoDeed:
        return ("no deed",)
    except SlowBadLater as refused:
        return ("later", refused.place, refused.word)


class DrawnBooks(unittest.TestCase):
    def drawn_step(self, draw, fields, parts, deeds):
        """A step as (name, arguments)."""
        name = "add"
        if len(deeds) > 6 or draw.random() < 0.15:
            name = draw.choice(["add"] * 2 + ["put_right"] * 5 + ["taken_back"])
        if name == "add":
            return name, (drawn_deed(draw, WARES, fields[0], parts[0], len(parts[3])),)
        if name == "taken_back":
            return name, ()
        pushes = [k for k, deed in enumerate(deeds) if deed[0] == "push"]
        k = draw.choice(pushes) if pushes and draw.random() < 0.8 else draw.randint(-2, len(deeds) + 1)
        volume = draw.randint(1, 30)
        if k in pushes and draw.random() < 0.8:
            volume = max(1, deeds[k][4] + draw.choice([-3, -1, 0, 1, 4, 9]))
        return name, (k, volume)

    def drawn_parts(self, draw, segments):
        """Sources have little, so that one push more leaves too little for a later one."""
        sources = [(0, ware, draw.randint(9, 30), 0, draw.randint(1, 4)) for ware in WARES]
        sources.extend(source for source in drawn_sources(draw, WARES, segments) if source[0] > 0)
        tanks = drawn_tanks(draw, WARES, segments)
        return [sources, tanks, drawn_bounds(draw, WARES, segments), drawn_orders(draw, WARES, segments)]

    def had_it_been_so(self, fields, fill, parts, deeds):
        """A book to which the deeds are added from the beginning."""
        book = Book(Works(pipe_of(fields), fill, *parts))
        for deed in deeds:
            book.add(deed)
        return book

    def assert_same(self, book, slow):
        works, told = slow.anew(slow.deeds)
        self.assertEqual(fast_state(book.works()), works.state())
        self.assertEqual(book.deeds(), slow.deeds)
        self.assertEqual(book.told(), told)

    def test_many_drawn_books(self):
        draw = random.Random(31)
        count = {}
        for number in range(60):
            fields, fill = drawn_pipe_and_fill(draw, 2)
            parts = self.drawn_parts(draw, len(fields[0]))
            works = Works(pipe_of(fields), fill, *parts)
            slow = SlowBook(SlowWorks(fields, fill, *parts))
            book = Book(works)
            for turn in range(24):
                name, arguments = self.drawn_step(draw, fields, parts, slow.deeds)
                before = book_state(book)
                with self.subTest(number=number, turn=turn):
                    wanted = slowly(lambda: getattr(slow, name)(*arguments))
                    self.assertEqual(fast(lambda: getattr(book, name)(*arguments)), wanted)
                    self.assert_same(book, slow)
                    anew = self.had_it_been_so(fields, fill, parts, slow.deeds)
                    self.assertEqual(book_state(book), book_state(anew))
                    if wanted[0] != "done":
                        self.assertEqual(book_state(book), before)
                words = [name + " " + wanted[0]]
                if wanted[0] == "later":
                    words.append("at the deed itself" if wanted[1] == arguments[0] else "at a later one")
                if name == "put_right" and wanted[0] == "done":
                    words.append("all behind tell something else" if len(wanted[1]) == len(slow.deeds) - arguments[0]
                                 else "some behind tell the same")
                    words.append("nothing else is told" if wanted[1] == [] else "something else is told")
                for word in words:
                    count[word] = count.get(word, 0) + 1
        for word, least in [
            ("add done", 200), ("add refused", 100), ("put_right done", 80), ("put_right no deed", 40),
            ("put_right later", 30), ("taken_back done", 30), ("taken_back no deed", 2), ("at the deed itself", 15),
            ("at a later one", 10), ("all behind tell something else", 12), ("some behind tell the same", 20),
            ("nothing else is told", 20), ("something else is told", 50),
        ]:
            self.assertGreaterEqual(count.get(word, 0), least, word)


if __name__ == "__main__":
    unittest.main()
