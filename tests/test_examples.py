"""The examples of the document, word for word, each behind those ahead of it; and those of README.md."""

import doctest
import pathlib
import unittest

README = pathlib.Path(__file__).resolve().parent.parent / "README.md"

# For each section: how many examples it has, and these.
SECTIONS = [
    ("section 5", 4, """
>>> from seenabout.points import Line, Point
>>> from seenabout.ratios import Ratio
>>> across, way = Line(Point(0, 0), Point(4, 0)), Line(Point(0, 4), Point(1, 1))
>>> [(across & way).text, across.height(Point(1, 1)), across.share(Point(Ratio(4, 3), 0)), Point(0, 4).towards(Point(1, 1), 2).text]
['4/3 0', Ratio(4), Ratio(1, 3), '2 -2']
"""),
    ("section 7", 5, """
>>> from seenabout.charts import Chart
>>> from seenabout.sights import about, sides
>>> chart = Chart('mark a 0 0\\nmark b 4 0\\nmark c 0 4')
>>> [about(chart, Point(x, y)) for x, y in ((1, 1), (3, 3), (-1, -1), (6, 0))]
[(('a',), ('b',), ('c',)), (('a',), ('b',), ('c',)), (('a',), ('c',), ('b',)), (('a', 'b'), ('c',))]
>>> [chart.pairs, sides(chart, Point(1, 1)), sides(chart, Point(2, 0)), sides(chart, Point(6, 0))]
[(('a', 'b'), ('a', 'c'), ('b', 'c')), (1, -1, 1), (0, -1, 1), (0, -1, -1)]
"""),
    ("section 8", 3, """
>>> from seenabout.cells import cells, next_to, pieces, place_of, shows_place_of
>>> [len(cells(chart)), next_to(chart, (1, -1, 1)), len(pieces(chart, cells(chart)))]
[16, ((0, -1, 1), (1, -1, 0), (1, 0, 1)), 1]
>>> [place_of(chart, (0, 0, 1)), shows_place_of(chart, (-1, 1, -1), ('never', ((0, -1), (1, 1), (2, -1))))]
[('mark', 'a'), True]
"""),
    ("section 10", 8, """
>>> from seenabout.lands import Land
>>> from seenabout.seeing import rounds, seen_from, shows_seen_from, where
>>> turned, patch = (('a',), ('c',), ('b',)), Land(((1, 1), (5, 1), (1, 5)))
>>> [len(rounds(chart)), rounds(chart, land=patch), len(where(chart, turned)), len(pieces(chart, where(chart, turned)))]
[5, ((('a',), ('b',), ('c',)),), 3, 3]
>>> [seen_from(chart, turned)[0], seen_from(chart, turned, land=patch)[0], seen_from(chart, (('a', 'b', 'c'),))[0]]
['place', 'never', 'never']
>>> never = ('barred', (('edge', 0, 1), ('pair', 0, -1)))
>>> tree = ('split', 0, ('split', 1, ('barred', (('edge', 2, 1), ('pair', 1, 1))), ('mark', 'a'), ('mark', 'a')), never, never)
>>> shows_seen_from(chart, turned, ('never', tree), land=patch)
False
"""),
    ("section 11", 2, """
>>> from seenabout.ways import crossed, fewest, seen_on
>>> [len(seen_on(chart, Point(1, 1), Point(-1, -2))), crossed(chart, Point(1, 1), Point(-1, -2)), fewest(chart, Point(1, 1), Point(-1, -2))[0]]
[3, ((Ratio(1, 3), (0,)), (Ratio(1, 2), (1,))), 1]
"""),
    ("section 12", 3, """
>>> from seenabout.logs import began, coming, known, now
>>> plain, corner = (('a',), ('b',), ('c',)), (('a', 'c'), ('b',))
>>> [len(began(chart, (plain, corner, turned))), now(chart, (plain, corner, turned)), known(chart, (corner,)), len(coming(chart, (turned,)))]
[7, ((-1, 1, 1), (1, 1, -1)), (None, 0, None), 3]
"""),
    ("section 13", 5, """
>>> from seenabout.scripts import ends, failing, leads, Script, walked
>>> to, away = Script('towards c until a b'), Script('from c between a b')
>>> [walked(chart, to, Point(1, 1))[:2], walked(chart, away, Point(1, 1))[2][1].text]
[('at', 1), '4/3 0']
>>> small = Land(((1, 1), (2, 1), (1, 2)))
>>> [leads(chart, away, small), failing(chart, to, small), ends(chart, Script('from c until a b'), small)]
[('sure', (('a', 'b', (Ratio(1, 3), True), (Ratio(2, 3), True)),)), ((1, 'at'),), ()]
"""),
    ("section 14", 4, """
>>> from seenabout.laps import Lap
>>> five = chart + 'mark d 6 6' + 'mark e 1 -3'
>>> lap = Lap(five, Script('towards d between a c\\ntowards e between a b'))
>>> [lap.table, lap.starts(), lap.starts(2), lap.turns, lap.fixed, lap.led(-1)]
[(1, 0, 6, -3), (((Ratio(-3), True), (Ratio(0), True)),), (((Ratio(0), True), (Ratio(0), True)),), None, (3, -2, 0), ('done', Ratio(1, 9))]
"""),
    ("section 15", 3, """
>>> from seenabout.comparing import apart
>>> from seenabout.looks import fewest_marks, mixed
>>> [mixed(chart, ('a', 'b'), land=patch), fewest_marks(chart, ('a', 'b'))[0], len(apart(chart, Chart('mark a 0 0\\nmark b 0 4\\nmark c 4 0'))[0])]
[None, 'none', 0]
"""),
    ("section 16", 3, """
>>> from seenabout.choosing import cheapest
>>> wide = Land(((5, -3), (8, -3), (8, 1), (5, 1)))
>>> cheapest(chart, (('mark d 12 -1', 2), ('mark e 9 9', 1)), (('a', 'b'),), land=wide)[:3]
('choice', 1, (('mark e 9 9', 1),))
"""),
    ("section 18", 5, """
>>> from seenabout.desk import Desk
>>> from seenabout.journals import journal
>>> desk = Desk(chart.text + '\\nat 1 1\\nfrom c between a b')
>>> [desk.say(line) for line in ('place', 'round', 'side a b', 'known a b', 'go -1 -1/2', 'round', 'known b a', 'undo')]
['4/3 0', 'a b c', 'on', 'open', 'done', 'a c b', 'open', 'done']
>>> journal(desk.walker).split('\\n')[3:]
['at 1 1', 'from c between a b']
"""),
]


def run(title, text, names):
    """How many examples failed, how many there are, what was told of it, and the names that are known behind them."""
    example = doctest.DocTestParser().get_doctest(text, names, title, None, 0)
    told = []
    results = doctest.DocTestRunner(verbose=False).run(example, out=told.append, clear_globs=False)
    return results.failed, results.attempted, "".join(told), example.globs


class Examples(unittest.TestCase):

    def test_word_for_word(self):
        names = {}
        for section, many, text in SECTIONS:
            with self.subTest(section):
                failed, attempted, told, names = run(section, text, names)
                self.assertEqual((failed, attempted), (0, many), told)

    def test_readme(self):
        failed, attempted, told, _ = run("README.md", README.read_text(encoding="utf-8").replace("```", ""), {})
        self.assertEqual(failed, 0, told)
        self.assertGreater(attempted, 10)


if __name__ == "__main__":
    unittest.main()
