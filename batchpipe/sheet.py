"""Sheets: a text of rows is read, its orders are done with a book, and each is answered by a text."""

from batchpipe.book import Book
from batchpipe.errors import BadDeed, BadLater, NoDeed
from batchpipe.rows import read_sheet
from batchpipe.views import told
from batchpipe.works import account_of


def answers(text):
    works, orders = read_sheet(text)
    book = Book(works)
    return [" ".join(answer_of(book, order)) for order in orders]


def fraction_word(fraction):
    number, parts = fraction
    return str(number) if parts == 1 else f"{number}/{parts}"


def share_words(shares):
    words = []
    for ware, amount in shares:
        words.extend([ware, fraction_word(amount)])
    return words


def triple_words(triple):
    start, stop, shares = triple
    return [fraction_word(start), fraction_word(stop)] + share_words(shares)


def push_words(book, order):
    # A row without a pig has a word fewer than the deed.
    kind, view, goals, caught = book.add(order if len(order) == 6 else order + (None,))
    words = ["out"]
    for triple, goal in zip(view, goals):
        words.extend(triple_words(triple) + ["slop" if goal is None else goal])
    return words + (["pigs"] + number_words(caught) if caught else [])


def number_words(numbers):
    return [str(number) for number in numbers]


def wait_words(book, order):
    book.add(order)
    return ["hour"] + hour_words(book, order)


def take_words(book, order):
    return ["took"] + share_words(book.add(order)[1])


def right_words(book, order):
    return ["right"] + number_words(book.put_right(order[1], order[2]))


def back_words(book, order):
    book.taken_back()
    return ["back"]


def pipe_words(book, order):
    words = []
    for triple in told(book.works().content):
        words.extend(triple_words(triple))
    return words


def tanks_words(book, order):
    works = book.works()
    words = []
    for node, tank in works.tanks:
        words.extend(["tank", str(node), tank.ware] + share_words(tank.holds))
    for node, shares in works.slops:
        words.extend(["slop", str(node)] + share_words(shares))
    return words


def hour_words(book, order):
    return [fraction_word(book.works().hour)]


def account_words(book, order):
    words = []
    for row in account_of(book.works()):
        words.extend(list(row[:1]) + [fraction_word(amount) for amount in row[1:]])
    return words


def deeds_words(book, order):
    return [str(len(book.deeds()))]


WORDS_BY_KIND = {
    "push": push_words,
    "wait": wait_words,
    "take": take_words,
    "right": right_words,
    "back": back_words,
    "pipe": pipe_words,
    "tanks": tanks_words,
    "hour": hour_words,
    "account": account_words,
    "deeds": deeds_words,
}


def answer_of(book, order):
    try:
        return WORDS_BY_KIND[order[0]](book, order)
    except BadDeed as refused:
        return ["refused", refused.word]
    except NoDeed:
        return ["refused", "deed"]
    except BadLater as refused:
        return ["refused", "later", str(refused.place), refused.word]
