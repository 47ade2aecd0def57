"""The promise on made texts: pulls against runs, texts set anew, ways that are followed and stored."""

import unittest

from tests.byhand import does, pairs_that_do, pull_any_by_runs, pull_by_runs, set_at
from tests.test_promise import STEPS, texts
from tugline.books import Book
from tugline.errors import NoPull
from tugline.plain import run
from tugline.pulls import pull, pull_any, pull_two
from tugline.sources import knobs, set_to
from tugline.traced import first_broken, traced
from tugline.ways import Ways, follow

MOST = 1000


def knobs_that_matter(source, least):
    """The knobs in what is told or on which the way hangs, and others, at least so many."""
    told, _, _, _, conditions = traced(source, steps=STEPS)
    forms = list(told) + [form for _, form in conditions]
    matter = sorted({knob for _, parts in forms for knob, _ in parts})
    return matter if len(matter) >= least else list(range(len(knobs(source))))


def asked_at(chance, told):
    """A place that is told, its number there, and perhaps another one pinned; all as told."""
    place = chance.randrange(len(told))
    pinned = []
    if chance.random() < 0.3:
        other = chance.randrange(len(told))
        pinned.append((other, told[other]))
    return place, told[place], pinned


class Pulls(unittest.TestCase):
    def test_pulls_by_one_knob(self):
        done = none = 0
        for chance, maker, source in texts(200, 300):
            matter = knobs_that_matter(source, 1)
            for knob in chance.sample(matter, min(2, len(matter))):
                low = maker.knobs[knob] + chance.randint(-8, 4)
                high = low + chance.randint(0, 12)
                told = run(source, setting=set_at(source, (knob, chance.randint(low, high))), steps=STEPS)[0]
                if not told:
                    continue
                place, due, pinned = asked_at(chance, told)
                due += chance.choice((0, 0, 0, 0, 1))
                found = pull(source, place, due, knob, low, high, pinned=pinned, steps=STEPS, most=MOST)
                hand = pull_by_runs(source, [(place, due), *pinned], knob, low, high, steps=STEPS)
                self.assertEqual(found, hand, (source, place, due, pinned, knob, low, high))
                done += found is not None and found != maker.knobs[knob]
                none += found is None
        self.assertGreater(min(done, none), 30, (done, none))

    def test_pulls_by_any_knob(self):
        done = none = 0
        for chance, maker, source in texts(250, 250):
            if not 1 <= len(maker.knobs) <= 20:
                continue
            low = chance.randint(-5, 4)
            high = low + chance.randint(0, 6)
            moved = (chance.choice(knobs_that_matter(source, 1)), chance.randint(low, high))
            told = run(source, setting=set_at(source, moved), steps=STEPS)[0]
            if not told:
                continue
            place, due, pinned = asked_at(chance, told)
            due += chance.choice((0, 0, 0, 0, 1))
            found = pull_any(source, place, due, low, high, pinned=pinned, steps=STEPS, most=MOST)
            hand = pull_any_by_runs(source, [(place, due), *pinned], low, high, steps=STEPS)
            self.assertEqual(found, hand, (source, place, due, pinned, low, high))
            done += found is not None
            none += found is None
        self.assertGreater(min(done, none), 10, (done, none))

    def test_pulls_by_two_knobs(self):
        done = none = 0
        far = 5
        for chance, maker, source in texts(150, 300):
            matter = knobs_that_matter(source, 2)
            told, _, way, _, conditions = traced(source, steps=STEPS)
            if not told or len(matter) < 2:
                continue
            for _ in range(2):
                knob, other = chance.sample(matter, 2)
                near = [(k, maker.knobs[k] + chance.randint(-2, 2)) for k in (knob, other)]
                there = run(source, setting=set_at(source, *near), steps=STEPS)[0]
                place, due, pinned = asked_at(chance, there or run(source, steps=STEPS)[0])
                asked = [(place, due), *pinned]
                found = pull_two(source, place, due, knob, other, pinned=pinned, steps=STEPS)
                pairs = pairs_that_do(source, asked, knob, other, far, steps=STEPS)
                if pairs:
                    self.assertEqual(found, pairs[0][2:], (source, asked, knob, other))
                    done += pairs[0][0] > 0
                elif found is None:
                    none += 1
                else:
                    self.assertGreater(sum(abs(found[k] - maker.knobs[at]) for k, at in ((0, knob), (1, other))), far)
                    setting = set_at(source, (knob, found[0]), (other, found[1]))
                    plain = run(source, setting=setting, steps=STEPS)
                    self.assertTrue(plain[2] == way and does(plain[0], asked), (source, asked, found))
        self.assertGreater(min(done, none), 15, (done, none))


class SetAnew(unittest.TestCase):
    def test_books(self):
        done = none = 0
        for chance, maker, source in texts(100, 150):
            book, told = Book(source), run(source)[0]
            if not told or not maker.knobs:
                continue
            place = chance.randrange(len(told))
            knob = chance.choice(knobs_that_matter(source, 1))
            due = told[place] + chance.choice((0, 1, -1, 2, 7))
            here = maker.knobs[knob]
            try:
                found = book.pull(place, due, knob, here - 40, here + 40)
            except NoPull:
                none += 1
                self.assertEqual((book.text(), book.changes()), (source, 0))
                continue
            done += 1
            number = knobs(found)[knob]
            self.assertEqual(run(found)[0][place], due)
            self.assertEqual(found, set_to(source, set_at(source, (knob, number))))
            self.assertEqual((book.text(), book.changes(), book.back()), (found, 1, source))
        self.assertGreater(min(done, none), 30, (done, none))

    def test_whence(self):
        for chance, maker, source in texts(60, 100):
            for place, (_, parts) in enumerate(traced(source)[0]):
                found = Book(source).whence(place)
                self.assertEqual(found, [(knob, maker.knob_lines[knob], many) for knob, many in parts])


class Followed(unittest.TestCase):
    def test_a_run_s_own_way(self):
        for chance, maker, source in texts(500, 200):
            for setting in (maker.knobs, [maker.number() for _ in maker.knobs]):
                steps = chance.choice((300, 300, 20, 5))
                told, end, way, many, conditions = traced(source, setting=setting, steps=steps)
                self.assertEqual(follow(source, way, steps=steps), (told, end, many, conditions))
                # One entry less is short of one; one more is left over.
                if way:
                    self.assertEqual(follow(source, way[:-1], steps=steps), len(way) - 1)
                self.assertEqual(follow(source, way + way[:1] + ((0, "yes"),), steps=steps), len(way))

    def test_a_way_bent_at_an_entry(self):
        """Such a way can't be there from that entry on, or there its own conditions are told."""
        others = {"yes": "no", "no": "yes", "less": "same", "same": "more", "more": "less", "below": "beyond", "beyond": "below"}
        for chance, maker, source in texts(200, 200):
            told, end, way, many, conditions = traced(source, steps=STEPS)
            if not way:
                continue
            at = chance.randrange(len(way))
            line, out = way[at]
            for entry in ((line + 1, out), (line, None), (line, True), [line, out], (line, out, out), (line,), (line, "here")):
                self.assertEqual(follow(source, way[:at] + (entry,) + way[at + 1:], steps=STEPS), at, (source, way, entry))
            bent = way[:at] + ((line, others.get(out, 0)),)
            found = follow(source, bent, steps=STEPS)
            if isinstance(found, tuple):
                self.assertEqual([pair for pair in found[3] if pair[0] < at], [pair for pair in conditions if pair[0] < at])
                self.assertEqual(found[3][-1][0], at)
            else:
                self.assertEqual(found, at + 1, (source, bent))

    def test_what_is_followed_is_what_such_a_setting_runs(self):
        for chance, maker, source in texts(150, 150):
            way = traced(source, setting=[maker.number() for _ in maker.knobs], steps=STEPS)[2]
            told, end, many, conditions = follow(source, way, steps=STEPS)
            setting = [number + chance.randint(-1, 1) for number in maker.knobs]
            goes = run(source, setting=setting, steps=STEPS)[2] == way
            self.assertEqual(first_broken(conditions, setting) is None, goes)


class Stored(unittest.TestCase):
    def test_asked_again_and_again(self):
        by_kept = 0
        for chance, maker, source in texts(150, 150):
            room = chance.choice((1, 2, 3, 30))
            store = Ways(source, room=room, steps=STEPS)
            kept, ran = [], 0
            for _ in range(12):
                setting = [number + chance.choice((0, 0, 0, 1, -1)) for number in maker.knobs]
                told, end, way, _ = run(source, setting=setting, steps=STEPS)
                broken = store.broken(setting)
                self.assertEqual([turn is None for turn in broken], [other == way for other in kept])
                for turn, other in zip(broken, kept):
                    if turn is not None:
                        self.assertEqual((turn, way[:turn]), (turn, other[:turn]))
                        self.assertNotEqual(way[turn], other[turn])
                if way not in kept:
                    kept = (kept + [way])[-room:]
                    ran += 1
                else:
                    by_kept += 1
                self.assertEqual(store.ask(setting), (told, end))
                self.assertEqual((store.ways(), store.runs()), (kept, ran))
        self.assertGreater(by_kept, 1000, by_kept)


if __name__ == "__main__":
    unittest.main()
