import unittest

from pactroom.sheets import Sheet
from pactroom.stands import Stand

P = (0, 0)
Q = (0, 1)
R = (1, 0)


def end(p, outcome="done"):
    return ("end", p, outcome, ())


class SheetTest(unittest.TestCase):
    def test_an_empty_sheet(self):
        sheet = Sheet(Stand([1]))
        self.assertEqual((sheet.rows_told(), sheet.letters_told()), ([], []))
        self.assertEqual(Sheet(stand=Stand([1])).rows_told(), [])

    def test_a_letter(self):
        sheet = Sheet(Stand([1]))
        sheet.send(2, "work", P, (0, 5, "take 2 0"))
        self.assertEqual(sheet.letters_told(), [(2, ("work", P, (0, 5, "take 2 0"), ()))])
        self.assertEqual(sheet.rows_told(), [])

    def test_arguments_by_their_names(self):
        sheet = Sheet(Stand([1]))
        sheet.row(row=end(Q))
        sheet.send(to=1, word="tell", p=P, more=())
        self.assertEqual(sheet.letters_told(), [(1, ("tell", P, (), ((Q, "done"),)))])

    def test_rows_in_the_order_put_on(self):
        stand = Stand([1])
        sheet = Sheet(stand)
        rows = [("work", Q), ("begin", P, "held plus 1"), end(R, "broken"), ("over", P), ("work", R)]
        for row in rows:
            sheet.row(row)
        self.assertEqual(sheet.rows_told(), rows)
        self.assertEqual(sheet.letters_told(), [])

    def test_letters_in_the_order_put_on(self):
        sheet = Sheet(Stand([1]))
        put = [(3, "tell", Q, ()), (0, "work", R, (1, 0, "take 0 0")), (3, "tell", P, ()), (3, "tell", Q, ()),
               (1, "ready", P, (1, 3)), (0, "seek", P, ((Q, 2), (P, 0)))]
        for to, word, p, more in put:
            sheet.send(to, word, p, more)
        self.assertEqual(sheet.letters_told(), [(to, (word, p, more, ())) for to, word, p, more in put])

    def test_a_row_counts_at_once_in_what_stands(self):
        stand = Stand([10, 20])
        sheet = Sheet(stand)
        sheet.row(("walked", P, 0, ((1, 25),), 4))
        self.assertEqual(stand.cells_told(), [10, 25])
        self.assertEqual(stand.walked_at(P, 0), ("walked", P, 0, ((1, 25),), 4))
        sheet.row(("ready", Q, (0, 1), (), ((0, 11),)))
        self.assertEqual(stand.bound(), [("ready", Q, (0, 1), (), ((0, 11),))])
        sheet.row(end(Q))
        self.assertEqual(stand.cells_told(), [11, 25])
        self.assertEqual((stand.outcome(Q), stand.news(), stand.bound()), ("done", ((Q, "done"),), []))

    def test_a_letter_changes_nothing_that_stands(self):
        stand = Stand([10, 20])
        Sheet(stand).send(1, "tell", P, ())
        self.assertEqual((stand.cells_told(), stand.news(), stand.lost()), ([10, 20], (), []))


class NewsTest(unittest.TestCase):
    def news(self, sheet):
        return [letter[3] for to, letter in sheet.letters_told()]

    def test_letters_ahead_of_and_behind_an_end_row(self):
        sheet = Sheet(Stand([1]))
        sheet.send(1, "did", P, (0, 5))
        sheet.row(end(Q, "broken"))
        sheet.send(2, "tell", Q, ())
        self.assertEqual(sheet.letters_told(), [(1, ("did", P, (0, 5), ((Q, "broken"),))),
                                                (2, ("tell", Q, (), ((Q, "broken"),)))])

    def test_letters_between_end_rows(self):
        sheet = Sheet(Stand([1]))
        sheet.row(end(R, "broken"))
        sheet.send(1, "did", P, (0, 5))
        sheet.row(end(P))
        sheet.row(("over", P))
        self.assertEqual(self.news(sheet), [((P, "done"), (R, "broken"))])
        self.assertIsInstance(self.news(sheet)[0], tuple)

    def test_news_from_ahead_of_the_sheet(self):
        stand = Stand([1])
        stand.keep(end(R))
        sheet = Sheet(stand)
        sheet.send(1, "tell", R, ())
        self.assertEqual(self.news(sheet), [((R, "done"),)])
        sheet.row(end(P, "broken"))
        self.assertEqual(self.news(sheet), [((P, "broken"), (R, "done"))])

    def test_a_sheet_without_rows(self):
        stand = Stand([1])
        sheet = Sheet(stand)
        sheet.send(1, "tell", P, ())
        self.assertEqual(self.news(sheet), [()])
        stand = Stand([1])
        stand.keep(end(Q))
        sheet = Sheet(stand)
        sheet.send(1, "tell", P, ())
        sheet.send(2, "tell", P, ())
        self.assertEqual(self.news(sheet), [((Q, "done"),)] * 2)
        self.assertEqual(sheet.rows_told(), [])

    def test_rows_without_news(self):
        sheet = Sheet(Stand([1]))
        sheet.send(1, "tell", P, ())
        sheet.row(("begin", P, "held plus 1"))
        sheet.row(("work", P))
        self.assertEqual(self.news(sheet), [()])


class TwoSheetsTest(unittest.TestCase):
    def test_one_behind_the_other(self):
        stand = Stand([1])
        one = Sheet(stand)
        one.send(1, "tell", P, ())
        one.row(end(P))
        other = Sheet(stand)
        other.send(2, "tell", Q, ())
        self.assertEqual(other.letters_told(), [(2, ("tell", Q, (), ((P, "done"),)))])
        other.row(end(Q, "broken"))
        self.assertEqual(one.rows_told(), [end(P)])
        self.assertEqual(other.rows_told(), [end(Q, "broken")])
        self.assertEqual(other.letters_told(), [(2, ("tell", Q, (), ((P, "done"), (Q, "broken"))))])
        # The first one's letters bear what stood behind its own rows.
        self.assertEqual(one.letters_told(), [(1, ("tell", P, (), ((P, "done"),)))])

    def test_both_are_kept_by_the_stand(self):
        stand = Stand([1, 2])
        one = Sheet(stand)
        other = Sheet(stand)
        one.row(("walked", P, 0, ((0, 7),), 0))
        other.row(("walked", Q, 0, ((1, 8),), 0))
        one.row(("walked", P, 1, ((1, 9),), 0))
        self.assertEqual(stand.cells_told(), [7, 9])
        self.assertEqual(one.rows_told(), [("walked", P, 0, ((0, 7),), 0), ("walked", P, 1, ((1, 9),), 0)])
        self.assertEqual(other.rows_told(), [("walked", Q, 0, ((1, 8),), 0)])

    def test_sheets_of_two_stands(self):
        one = Sheet(Stand([1]))
        other = Sheet(Stand([1]))
        one.row(end(P))
        other.send(1, "tell", P, ())
        self.assertEqual((other.rows_told(), other.letters_told()), ([], [(1, ("tell", P, (), ()))]))
        self.assertEqual(one.letters_told(), [])


class AskersOwnTest(unittest.TestCase):
    def test_lists_told_and_then_changed(self):
        sheet = Sheet(Stand([1]))
        sheet.row(end(P))
        sheet.send(1, "tell", P, ())
        rows = sheet.rows_told()
        letters = sheet.letters_told()
        rows.clear()
        letters.append((2, ("tell", P, (), ())))
        self.assertEqual(sheet.rows_told(), [end(P)])
        self.assertEqual(sheet.letters_told(), [(1, ("tell", P, (), ((P, "done"),)))])

    def test_lists_told_stay_as_they_were(self):
        sheet = Sheet(Stand([1]))
        rows = sheet.rows_told()
        letters = sheet.letters_told()
        sheet.row(end(P))
        sheet.send(1, "tell", P, ())
        self.assertEqual((rows, letters), ([], []))


if __name__ == "__main__":
    unittest.main()
