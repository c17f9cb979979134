"""The examples of points 4 to 13, as they stand in the document."""

import doctest
import unittest

EXAMPLES = r"""
>>> from factpairs.books import Book
>>> text = 'ones ann bea\nothers cy dan\nann rather cy dan nobody\nbea rather dan nobody\nbea rather cy nobody\ncy rather ann nobody\ncy rather bea nobody\ndan rather ann nobody\ndan rather bea nobody'
>>> book = Book(text)
>>> [book.persons, book['ann'], book.sayings[1], len(book), ('ann', 'cy', '') in book, ('bea', 'dan', 'cy') in book]
[('ann', 'bea', 'cy', 'dan'), ('cy', 'dan', ''), ('bea', ('dan', '')), 7, True, False]
>>> more = book.said('bea', ('dan', 'cy'))
>>> [more.ahead('bea', ''), book <= more, (book & more) <= book, more.places('bea', 'cy'), book.places('bea', 'cy')]
[('cy', 'dan'), True, True, (1, 1), (0, 1)]

>>> from factpairs.lists import how_many, is_list, leaving, nth, usual
>>> [how_many(book, 'ann'), how_many(book, 'bea'), nth(book, 'bea', 1), is_list(book, 'bea', ('', 'cy', 'dan'))]
[1, 2, ('dan', 'cy', ''), False]
>>> lists = (nth(book, 'ann', 0), nth(book, 'bea', 0), nth(book, 'cy', 0), nth(book, 'dan', 0))
>>> [lists[1:3], usual(book, lists), leaving(book, lists, (('ann', 'dan'), ('bea', 'cy')))]
[(('cy', 'dan', ''), ('ann', 'bea', '')), (('ann', 'cy'), ('bea', 'dan')), (('ann', 'cy'),)]

>>> from factpairs.judging import judged
>>> from factpairs.pairings import Pairing
>>> pairing = Pairing(book, (('ann', 'cy'), ('bea', 'dan')))
>>> [pairing['dan'], pairing.alone, judged(pairing)[0], judged(pairing)[3], judged(pairing.on(more)), judged(Pairing(book, ()))[0]]
['bea', (), 'open', ('bea', 'cy'), ('sure',), 'never']

>>> from factpairs.striking import shows_steadied, steadied, unstruck
>>> [steadied(book)[0], steadied(more)[1].pairs, unstruck(more)[0]]
['none', (('ann', 'cy'), ('bea', 'dan')), ('cy',)]
>>> strikes = (('cy', 'ann', 'bea'), ('cy', 'bea', 'ann'), ('cy', '', 'ann'))
>>> [shows_steadied(book, ('none', strikes)), shows_steadied(book, ('none', strikes[:2])), steadied(more, barred=(('ann', 'cy'),))[0]]
[True, False, 'none']

>>> from factpairs.every import always, count, every, sometimes, steps
>>> ring = Book('ones a b\nothers x y\na rather x y nobody\nb rather y x nobody\nx rather b a nobody\ny rather a b nobody')
>>> [count(ring), always(ring), sometimes(ring) == (('a', 'x'), ('a', 'y'), ('b', 'x'), ('b', 'y')), steps(ring)[0].pairs]
[2, (), True, (('a', 'y'), ('b', 'x'))]
>>> best, worst = every(ring)
>>> [best.pairs, (best | worst) == best, (best & worst) == worst, worst <= best]
[(('a', 'x'), ('b', 'y')), True, True, True]

>>> from factpairs.speaking import bringing, doubts, speakers
>>> [doubts(pairing), len(speakers(pairing)[1]), speakers(pairing)[2], bringing(book, 'bea'), bringing(book, 'cy'), bringing(book, 'ann')]
[(('bea', 'cy'),), 1, (('bea', 'cy'),), (('dan', 'cy'),), (('ann', 'bea'),), ()]

>>> from factpairs.asking import asks
>>> [asks(more), asks(book)[0]]
[(0, ('pairs', (('ann', 'cy'), ('bea', 'dan')))), 2]

>>> from factpairs.choosing import cheapest
>>> offers = (('bea', ('dan', 'cy'), 3), ('cy', ('ann', 'bea'), 2))
>>> cheapest(book, offers, (('some',),))
('choice', 2, (('cy', ('ann', 'bea'), 2),), (((), 0),))

>>> from factpairs.halls import Hall
>>> hall = Hall(book)
>>> hall.unite('ann', 'dan')
>>> hall.say('bea', ('dan', 'cy'))
>>> [hall.word(), hall.settle(), hall['ann'], hall.word(), hall.done, hall.tried(len), len(hall)]
['never', (('ann', 'cy'), ('bea', 'dan')), 'cy', 'sure', 3, 2, 2]

>>> from factpairs.desk import Desk
>>> from factpairs.journals import journal
>>> desk = Desk(journal(hall))
>>> [desk.say(line) for line in ('pairs', 'who bea', 'rather bea cy dan', 'undo', 'pairs', 'sure', 'unsay 7', 'sure', 'word')]
['ann cy, bea dan', 'dan', 'second', 'ok', 'ann dan', '2', 'ok', 'none', 'never']
"""


class ExamplesTest(unittest.TestCase):

    def test_examples(self):
        parser, runner = doctest.DocTestParser(), doctest.DocTestRunner(verbose=False)
        test = parser.get_doctest(EXAMPLES, {}, "DOC.md", "DOC.md", 0)
        told = []
        result = runner.run(test, out=told.append)
        self.assertEqual((result.failed, "".join(told)), (0, ""))
        self.assertEqual(result.attempted, 39)


if __name__ == "__main__":
    unittest.main()
