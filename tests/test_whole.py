"""What the document promises over the whole program: sign, lots, roads, shortest words, the heart and floors agree."""

from itertools import product

from slitsheets.bands import changed, path_vector
from slitsheets.cuttings import cuttings
from slitsheets.deeds import deeds, done, led, led_back
from slitsheets.floors import bands, cutting_of, floor_with, floor_word, floors_joined, floors_of, middles
from slitsheets.heart import heart_lots
from slitsheets.lots import joined, lot_of, lots, sign
from slitsheets.paths import root_path
from slitsheets.roads import is_road, road
from slitsheets.tables import led_path, table_product, word_table
from slitsheets.ways import how_far, is_shortest, shortest_word
from plain import SEARCHED, distances, graph, measures
from support import Case
from test_paths import BASE


class Agreement(Case):

    def test_signs_lots_and_roads(self):
        for measure in measures(130):
            told = cuttings(measure)
            place = {cutting: number for number, lot in enumerate(lots(measure)) for cutting in lot}
            self.assertEqual(sorted(place), told)
            for one, other in product(told[::2], told):
                is_one_lot = place[one] == place[other]
                self.assert_same(joined(one, other), is_one_lot)
                self.assertEqual(other in lot_of(one), is_one_lot)
                self.assertEqual(sign(one) == sign(other), is_one_lot)
                self.assertEqual(road(one, other) is not None, is_one_lot)
                self.assertEqual(how_far(one, other) is not None, is_one_lot)

    def test_lots_by_all_deeds(self):
        for measure in SEARCHED:
            steps = graph(measure)
            for lot in lots(measure):
                self.assertEqual(sorted(distances(steps, lot[:1])), lot)

    def test_no_road_is_shorter_than_the_shortest_word(self):
        for measure in [*measures(100), 121, 169, 201, 204, 225, 289, 401, 404, 529, 596]:
            told = cuttings(measure)
            for one, other in product(told[::5], told[1::7]):
                told_road = road(one, other)
                if told_road is None:
                    self.assertIsNone(shortest_word(one, other))
                    continue
                self.assertTrue(how_far(one, other) <= len(told_road) <= 12)
                self.assert_same(is_shortest(one, other, told_road), len(told_road) == how_far(one, other))
                self.assert_same(is_road(one, other, shortest_word(one, other)), True)

    def test_the_parts_of_the_heart_lie_each_in_one_lot(self):
        for measure in measures(700):
            signs = [{sign(cutting) for cutting in part} for part in heart_lots(measure)]
            self.assertEqual([len(found) for found in signs], [1] * len(signs))
            if measure < 150:
                for part in heart_lots(measure):
                    self.assertLessEqual(set(part), set(lot_of(part[0])))
            self.assertEqual(set().union(*signs), {sign(cutting) for cutting in cuttings(measure)})


class Floors(Case):

    def test_floors_fall_into_the_lots_of_their_cuttings(self):
        for n in range(3, 9):
            told = [floor for floor in floors_of(n) if len(bands(floor)) == 2]
            for lot in lots(n * n):
                start = floor_with(lot[0])
                self.assertEqual(sorted({cutting_of(floor) for floor in told if floors_joined(start, floor)}), lot)

    def test_signs_are_told_by_the_half_turn(self):
        for n in range(3, 11):
            for cutting in cuttings(n * n):
                corners = middles(floor_with(cutting))[0]
                self.assertEqual(corners, 2 if n % 2 == 0 else 3 if sign(cutting) == 1 else 1)

    def test_where_words_lead_floor_words_do(self):
        for n in (3, 4, 5, 6, 7):
            for one in cuttings(n * n)[::3]:
                for deed in deeds(one):
                    other = done(one, deed)
                    self.assertIsNotNone(floor_word(floor_with(one), floor_with(other)))
                for other in cuttings(n * n):
                    self.assertEqual(floor_word(floor_with(one), floor_with(other)) is None, road(one, other) is None)


class Sheets(Case):

    def test_words_lead_paths_and_vectors_alike(self):
        for measure in (5, 8, 9, 17, 24, 45):
            for cutting in cuttings(measure):
                for word in [[one, other] for one in deeds(cutting)[:4] for other in deeds(done(cutting, one))[-3:]]:
                    there, table = led(cutting, word), word_table(cutting, word)
                    middle = done(cutting, word[0])
                    for base in BASE:
                        vector = path_vector(cutting, led_path(table, base))
                        vector = changed(middle, word[1], changed(cutting, word[0], vector))
                        self.assert_same(vector, path_vector(there, base))
                    # There and back comes round: then it is no matter whether the root works ahead of it or behind.
                    both = word_table(cutting, word + led_back(cutting, word))
                    self.assertEqual(both, table_product(table, word_table(there, led_back(cutting, word))))
                    for base in BASE:
                        self.assert_same(root_path(cutting, led_path(both, base)),
                                         led_path(both, root_path(cutting, base)))
