import itertools
import unittest

from pactroom.errors import NoText
from pactroom.house import House
from pactroom.leads import HeldLead, WalkedLead

HOME = 1
MANY = 4

# Pacts that other houses lead, and the first ones that this house leads.
P = (0, 0)
Q = (0, 1)
R = (2, 0)
OWN = (HOME, 0)
NEXT = (HOME, 1)

NOTHING = ([], [])


class Hall:
    """House 1 of four. Each deed tells its rows and its letters, these as (to, word, pact, more)."""

    def __init__(self, cells=(10, 20, 30), home=HOME, many=MANY):
        self.house = House(list(cells), home, many)

    def told(self, sheet):
        news = self.house.stand.news()
        for to, letter in sheet.letters_told():
            assert letter[3] == news, letter
        return (sheet.rows_told(), [(to,) + letter[:3] for to, letter in sheet.letters_told()])

    def begin(self, text):
        return self.told(self.house.begin(text))

    def come(self, sender, word, p, more=(), news=()):
        return self.told(self.house.come(sender, (word, p, more, news)))

    def turn(self):
        return self.told(self.house.turn())

    def fall(self):
        return self.told(self.house.fall())

    def rise(self):
        return self.told(self.house.rise())

    def fall_and_rise(self):
        self.fall()
        return self.rise()

    def work(self, p, i, hand, text):
        return self.come(p[0], "work", p, (i, hand, text))

    def bind(self, p, text="add 1 0 1", houses=(0, 1)):
        """Makes the house bound for a pact that another one leads."""
        self.work(p, 0, 0, text)
        return self.come(p[0], "ready", p, houses)

    def write(self, *rows):
        """Puts rows into the book as if a deed had written them."""
        for row in rows:
            self.house.stand.keep(row)
            self.house.rows.append(row)

    def locks(self):
        return (self.house.works.held(), self.house.works.waiting())


def end(p, outcome="broken", hands=()):
    return ("end", p, outcome, hands)


def change(cell):
    return ("change", cell, cell)


def tell(to, p):
    return (to, "tell", p, ())


class BeginTest(unittest.TestCase):
    def test_the_begin_row_then_the_lead_goes_on(self):
        hall = Hall()
        text = "held plus 3; take 0 1; add 1 0 2"
        self.assertEqual(hall.begin(text), ([("begin", OWN, text)], [(0, "work", OWN, (1, 3, "take 0 1"))]))
        self.assertEqual(hall.house.rows, [("begin", OWN, text)])

    def test_a_walked_pact(self):
        text = "walked plus 3; take 2 1; give 1 0"
        self.assertEqual(Hall().begin(text), ([("begin", OWN, text)], [(2, "walk", OWN, (1, 3, "take 2 1"))]))

    def test_names_count_the_begin_rows(self):
        hall = Hall()
        for k in range(12):
            text = ("held", "walked")[k % 2] + " take 0 0"
            rows, letters = hall.begin(text)
            self.assertEqual((rows, letters[0][2]), ([("begin", (HOME, k), text)], (HOME, k)))
        self.assertEqual(Hall(home=3).begin("held take 0 0")[0], [("begin", (3, 0), "held take 0 0")])

    def test_names_go_on_behind_a_fall(self):
        hall = Hall()
        hall.begin("held take 0 0")
        hall.begin("held plus 1")
        hall.fall_and_rise()
        self.assertEqual(hall.begin("held plus 1")[0][0], ("begin", (HOME, 2), "held plus 1"))

    def test_a_text_that_is_refused_leaves_nothing(self):
        hall = Hall()
        for text, at in (("held", -1), ("held take 0 0; take 0", 1), ("bent take 0 0", -1)):
            with self.assertRaises(NoText) as caught:
                hall.begin(text)
            self.assertEqual(caught.exception.at, at)
        self.assertEqual((hall.house.rows, hall.house.stand.begun(), hall.house.leads), ([], [], {}))
        self.assertEqual(hall.begin("held plus 1")[0][0], ("begin", OWN, "held plus 1"))

    def test_an_outcome_named_at_once(self):
        hall = Hall()
        self.assertEqual(hall.begin("held plus 2; need 2"), (
            [("begin", OWN, "held plus 2; need 2"), end(OWN, "done", (2, 2))], []))
        self.assertEqual(hall.begin("held plus 2; need 3; take 1 0; take 2 0; take 0 0"), (
            [("begin", NEXT, "held plus 2; need 3; take 1 0; take 2 0; take 0 0"), end(NEXT)],
            [tell(0, NEXT), tell(2, NEXT)]))
        self.assertEqual(hall.begin("walked plus 2"), (
            [("begin", (1, 2), "walked plus 2"), end((1, 2), "done", (2,)), ("over", (1, 2))], []))
        self.assertEqual(hall.begin("walked need 1; give 1 0"), (
            [("begin", (1, 3), "walked need 1; give 1 0"), end((1, 3)), ("over", (1, 3))], []))
        self.assertEqual(hall.begin("walked plus 4; give 1 0"), (
            [("begin", (1, 4), "walked plus 4; give 1 0"), end((1, 4), "done", (4,))],
            [(1, "walk", (1, 4), (1, 4, "give 1 0"))]))


class EndTest(unittest.TestCase):
    def ring_side(self):
        """The lead has one step to hear of; two others wait here behind its pact."""
        hall = Hall()
        hall.begin("held add 1 0 5; add 0 0 1; take 2 0")
        hall.work(OWN, 0, 0, "add 1 0 5")
        hall.work(Q, 3, 7, "take 1 0")
        hall.work(P, 2, 8, "take 1 0")
        return hall

    def test_the_row_then_the_works_then_the_lead(self):
        hall = self.ring_side()
        told = hall.come(0, "ring", OWN, ((P, 1), (OWN, 0)))
        self.assertEqual(told, ([end(OWN), ("work", Q), ("work", P)],
                                [(0, "did", Q, (3, 10)), (0, "did", P, (2, 10)), tell(0, OWN), tell(2, OWN)]))
        self.assertEqual(hall.locks(), ([(Q, ("read", 0, 0)), (P, ("read", 0, 0))], []))

    def test_done_with_its_hands(self):
        hall = self.ring_side()
        hall.come(1, "did", OWN, (0, 0))
        hall.come(0, "did", OWN, (1, 0))
        hall.come(2, "did", OWN, (2, 77))
        hall.come(1, "ready", OWN, (0, 1, 2))
        hall.come(0, "yes", OWN)
        hall.come(1, "yes", OWN)
        told = hall.come(2, "yes", OWN)
        self.assertEqual(told, ([end(OWN, "done", (0, 0, 77)), ("work", Q), ("work", P)],
                                [(0, "did", Q, (3, 15)), (0, "did", P, (2, 15)), tell(0, OWN), tell(2, OWN)]))
        self.assertEqual(hall.house.stand.cells_told(), [15, 20, 30])

    def test_hands_of_steps_at_no_house_too(self):
        hall = Hall()
        hall.begin("held plus 4; take 0 0; plus 1; need 0; plus -9")
        hall.come(0, "did", OWN, (1, 100))
        self.assertEqual(hall.come(0, "yes", OWN)[0], [end(OWN, "done", (4, 100, 101, 101, 92))])

    def test_broken_tells_no_hands(self):
        hall = Hall()
        hall.begin("held plus 4; take 0 0; need 200")
        self.assertEqual(hall.come(0, "did", OWN, (1, 100)), ([end(OWN)], [tell(0, OWN)]))

    def test_elsewhere_than_at_the_leader_no_hands(self):
        hall = Hall()
        self.assertEqual(hall.come(0, "tell", P, (), ((P, "done"),)), ([end(P, "done")], []))

    def test_a_walked_pact_goes_on_in_the_deed_that_ends_it(self):
        hall = Hall()
        hall.begin("walked take 0 0; plus 1; give 2 0; plus 1")
        self.assertEqual(hall.come(0, "went", OWN, (0, 6)), (
            [end(OWN, "done", (6, 7))], [(2, "walk", OWN, (2, 7, "give 2 0"))]))
        self.assertEqual(hall.come(2, "went", OWN, (2, 7)), ([("over", OWN)], []))
        hall.begin("walked take 0 0; add 2 0 4; need 9; give 2 0")
        hall.come(0, "went", NEXT, (0, 6))
        self.assertEqual(hall.come(2, "went", NEXT, (1, 6)), ([end(NEXT)], [(2, "undo", NEXT, (1, "add 2 0 4"))]))
        self.assertEqual(hall.come(2, "undid", NEXT, (1,)), ([], [(0, "undo", NEXT, (0, "take 0 0"))]))
        self.assertEqual(hall.come(0, "undid", NEXT, (0,)), ([("over", NEXT)], []))

    def test_a_walked_pact_written_in_the_order_end_works_over(self):
        hall = Hall()
        hall.begin("walked plus 1; take 0 0")
        self.assertEqual(hall.come(0, "went", OWN, (1, 5))[0], [end(OWN, "done", (1, 5)), ("over", OWN)])

    def test_an_outcome_known_already_is_not_written_again(self):
        hall = Hall()
        news = ((P, "broken"), (Q, "done"))
        self.assertEqual(hall.come(3, "tell", P, (), news)[0], [end(P), end(Q, "done")])
        self.assertEqual(hall.come(0, "tell", P, (), news), NOTHING)
        self.assertEqual(hall.come(0, "tell", R, (), ((Q, "done"), (R, "done")))[0], [end(R, "done")])

    def test_the_lead_of_a_pact_that_another_house_broke_off(self):
        hall = Hall()
        hall.begin("held add 1 0 5; add 0 0 1; take 2 0")
        self.assertEqual(hall.come(2, "tell", OWN, (), ((OWN, "broken"),)), ([end(OWN)], [tell(0, OWN), tell(2, OWN)]))
        # What comes behind changes the outcome no more.
        self.assertEqual(hall.come(1, "did", OWN, (0, 0)), NOTHING)
        self.assertEqual([hall.turn() for k in range(5)], [NOTHING] * 5)


class NewsTest(unittest.TestCase):
    def test_in_their_order(self):
        for order in itertools.permutations(((P, "done"), (Q, "broken"), (R, "done"))):
            rows, letters = Hall().come(0, "tell", P, (), order)
            self.assertEqual(rows, [end(p, outcome) for p, outcome in order])
            self.assertEqual(letters, [])

    def test_all_are_taken_ahead_of_the_word(self):
        for word, more in (("work", (0, 0, "take 1 0")), ("ready", (1, 2)), ("ask", (1, 2)), ("ask", ())):
            for news in (((P, "done"),), ((P, "done"), (Q, "broken"))):
                hall = Hall()
                rows = [end(p, outcome) for p, outcome in news]
                self.assertEqual(hall.come(2, word, P, more, news), (rows, [tell(2, P)]))
                self.assertEqual(hall.locks(), ([], []))

    def test_a_lock_that_the_news_let_go(self):
        hall = Hall()
        hall.work(P, 0, 5, "give 1 0")
        self.assertEqual(hall.work(Q, 0, 5, "give 1 1")[0], [("work", Q)])
        told = hall.come(2, "work", R, (0, 5, "take 1 0"), ((P, "broken"), (Q, "broken")))
        self.assertEqual(told, ([end(P), end(Q), ("work", R)], [(2, "did", R, (0, 10))]))

    def test_who_waited_goes_on_ahead_of_the_word(self):
        hall = Hall()
        hall.work(P, 0, 5, "give 1 0")
        hall.work(Q, 0, 5, "give 1 0")
        told = hall.come(2, "work", R, (0, 5, "take 1 0"), ((P, "broken"),))
        self.assertEqual(told, ([end(P), ("work", Q)], [(0, "did", Q, (0, 5))]))
        self.assertEqual(hall.locks(), ([(Q, change(0))], [(R, ("read", 0, 0))]))

    def test_a_walk_and_a_walked_row_behind_the_news(self):
        hall = Hall()
        hall.bind(Q, "add 1 0 5")
        told = hall.come(0, "walk", P, (0, 5, "take 1 0"), ((Q, "done"),))
        self.assertEqual(told, ([end(Q, "done"), ("walked", P, 0, (), 15)], [(0, "went", P, (0, 15))]))
        self.assertEqual(hall.come(0, "walk", P, (1, 5, "take 1 0"), ((P, "broken"), (Q, "done"))), ([end(P)], []))

    def test_an_answer_behind_the_news(self):
        hall = Hall()
        hall.begin("held take 0 0; take 2 0")
        told = hall.come(0, "did", OWN, (0, 5), ((OWN, "broken"),))
        self.assertEqual(told, ([end(OWN)], [tell(0, OWN), tell(2, OWN)]))

    def test_news_of_a_bound_pact(self):
        for outcome, cells in (("done", [11, 20, 30]), ("broken", [10, 20, 30])):
            hall = Hall()
            hall.bind(P)
            self.assertEqual(hall.come(3, "tell", R, (), ((P, outcome),)), ([end(P, outcome)], []))
            self.assertEqual((hall.house.stand.cells_told(), hall.locks()), (cells, ([], [])))

    def test_letters_bear_the_news_behind_the_deed(self):
        hall = Hall()
        sheet = hall.house.come(2, ("ask", P, (1, 2), ((R, "done"),)))
        self.assertEqual(sheet.letters_told(), [(2, ("tell", P, (), ((P, "broken"), (R, "done"))))])


class TaskTest(unittest.TestCase):
    TASKS = (("work", (0, 0, "take 1 0")), ("ready", (1, 2)), ("ask", (0, 1)), ("ask", ()))

    def test_work_ready_and_ask_where_the_outcome_is_known(self):
        for outcome in ("done", "broken"):
            for p in (P, R):
                hall = Hall()
                hall.come(0, "tell", p, (), ((p, outcome),))
                for word, more in self.TASKS:
                    # To the sender, whoever leads the pact.
                    for sender in (0, 2, 3, HOME):
                        self.assertEqual(hall.come(sender, word, p, more), ([], [tell(sender, p)]))
                self.assertEqual(hall.locks(), ([], []))

    def test_at_the_leader_where_the_outcome_is_known(self):
        hall = Hall()
        hall.begin("held plus 1")
        for word, more in self.TASKS:
            self.assertEqual(hall.come(3, word, OWN, more), ([], [tell(3, OWN)]))

    def test_work_and_ready_where_it_is_not_known(self):
        hall = Hall()
        hall.come(0, "tell", Q, (), ((Q, "broken"),))
        self.assertEqual(hall.come(0, "ready", P, (0, 1)), NOTHING)
        self.assertEqual(hall.come(0, "work", P, (2, 5, "add 1 0 1")), ([("work", P)], [(0, "did", P, (2, 5))]))
        row = ("ready", P, (0, 1), (change(0),), ((0, 11),))
        self.assertEqual(hall.come(0, "ready", P, (0, 1)), ([row], [(0, "yes", P, ())]))
        self.assertEqual(hall.come(0, "work", P, (2, 5, "add 1 0 1")), NOTHING)

    def test_answers_go_to_the_leader_whoever_sent_the_letter(self):
        hall = Hall()
        self.assertEqual(hall.come(3, "work", R, (0, 5, "give 1 0"))[1], [(2, "did", R, (0, 5))])
        self.assertEqual(hall.come(3, "ready", R, (1,))[1], [(2, "yes", R, ())])
        self.assertEqual(hall.come(3, "walk", P, (0, 5, "take 1 1"))[1], [(0, "went", P, (0, 20))])
        self.assertEqual(hall.come(3, "undo", P, (0, "take 1 1"))[1], [(0, "undid", P, (0,))])

    def test_walk_known_or_not(self):
        hall = Hall()
        hall.come(0, "tell", P, (), ((P, "broken"), (Q, "done")))
        self.assertEqual(hall.come(0, "walk", P, (0, 5, "give 1 0")), NOTHING)
        self.assertEqual(hall.come(0, "walk", Q, (0, 5, "give 1 0")), (
            [("walked", Q, 0, ((0, 5),), 5)], [(0, "went", Q, (0, 5))]))
        self.assertEqual(hall.come(2, "walk", R, (0, 6, "give 1 1")), (
            [("walked", R, 0, ((1, 6),), 6)], [(2, "went", R, (0, 6))]))

    def test_undo_known_or_not(self):
        hall = Hall()
        hall.come(0, "walk", P, (0, 5, "add 1 0 3"))
        self.assertEqual(hall.come(2, "undo", R, (4, "add 1 0 3")), ([("void", R, 4)], [(2, "undid", R, (4,))]))
        told = hall.come(0, "undo", P, (0, "add 1 0 3"), ((P, "broken"),))
        self.assertEqual(told, ([end(P), ("undone", P, 0, ((0, 10),))], [(0, "undid", P, (0,))]))
        self.assertEqual(hall.come(0, "undo", P, (0, "add 1 0 3")), ([], [(0, "undid", P, (0,))]))

    def test_tell_does_nothing_more(self):
        hall = Hall()
        hall.bind(P)
        locks = hall.locks()
        self.assertEqual(hall.come(0, "tell", P), NOTHING)
        self.assertEqual(hall.locks(), locks)
        self.assertEqual(hall.come(0, "tell", P, (), ((P, "done"),)), ([end(P, "done")], []))
        self.assertEqual(hall.come(0, "tell", P, (), ((P, "done"),)), NOTHING)
        # Nor about a pact that is led here and has no outcome yet.
        hall.begin("held take 0 0; take 2 0")
        hall.begin("walked take 0 0; take 2 0")
        for p in (OWN, NEXT):
            self.assertEqual(hall.come(0, "tell", p), NOTHING)


class AskTest(unittest.TestCase):
    def test_at_the_leader(self):
        hall = Hall()
        hall.begin("held add 1 0 1; add 2 0 1")
        for more in ((1, 2), ()):
            self.assertEqual(hall.come(2, "ask", OWN, more), NOTHING)
        self.assertIs(hall.house.stand.outcome(OWN), None)

    def test_at_a_bound_house(self):
        hall = Hall()
        hall.bind(P)
        for more in ((0, 1), ()):
            self.assertEqual(hall.come(2, "ask", P, more), NOTHING)
        self.assertEqual(hall.locks(), ([(P, change(0))], []))

    def test_at_one_of_the_houses_that_is_not_bound(self):
        hall = Hall()
        self.assertEqual(hall.come(2, "ask", P, (1, 2)), ([end(P)], [tell(2, P)]))
        self.assertEqual(hall.come(0, "work", P, (0, 0, "take 1 0")), ([], [tell(0, P)]))

    def test_bound_for_another_pact_does_not_count(self):
        hall = Hall()
        hall.bind(Q)
        self.assertEqual(hall.come(2, "ask", P, (1, 2)), ([end(P)], [tell(2, P)]))
        self.assertEqual(hall.locks(), ([(Q, change(0))], []))

    def test_with_answers_and_with_others_that_wait(self):
        hall = Hall()
        hall.work(P, 0, 5, "give 1 0")
        hall.work(R, 4, 6, "take 1 0")
        told = hall.come(3, "ask", P, (1, 3))
        self.assertEqual(told, ([end(P), ("work", R)], [(2, "did", R, (4, 10)), tell(3, P)]))

    def test_a_pact_that_waits_here(self):
        hall = Hall()
        hall.work(R, 0, 6, "take 1 0")
        hall.work(P, 0, 5, "give 1 0")
        self.assertEqual(hall.come(3, "ask", P, (1, 3)), ([end(P)], [tell(3, P)]))
        self.assertEqual(hall.locks(), ([(R, ("read", 0, 0))], []))

    def test_at_a_house_that_is_none_of_the_pacts(self):
        hall = Hall()
        for more in ((0, 2), (0,), (2, 3), (0, 2, 3, 10)):
            self.assertEqual(hall.come(2, "ask", P, more), NOTHING)

    def test_with_no_houses(self):
        hall = Hall()
        self.assertEqual(hall.come(2, "ask", P, ()), NOTHING)
        hall.work(P, 0, 5, "give 1 0")
        self.assertEqual(hall.come(2, "ask", P, ()), NOTHING)
        self.assertEqual(hall.locks(), ([(P, change(0))], []))


class AnswerTest(unittest.TestCase):
    def test_to_the_lead(self):
        hall = Hall()
        hall.begin("held take 0 0; take 2 0")
        self.assertEqual(hall.come(0, "did", OWN, (0, 5)), ([], [(2, "work", OWN, (1, 5, "take 2 0"))]))
        self.assertEqual(hall.come(2, "did", OWN, (1, 6)), (
            [], [(0, "ready", OWN, (0, 2)), (2, "ready", OWN, (0, 2))]))
        self.assertEqual(hall.come(0, "yes", OWN), NOTHING)
        # A second yes of the same house counts as one.
        self.assertEqual(hall.come(0, "yes", OWN), NOTHING)
        self.assertEqual(hall.come(2, "yes", OWN), ([end(OWN, "done", (5, 6))], [tell(0, OWN), tell(2, OWN)]))
        self.assertEqual(hall.come(2, "yes", OWN), NOTHING)

    def test_to_the_lead_of_this_pact(self):
        hall = Hall()
        for k in range(3):
            hall.begin("held take 0 0; take 2 %d" % k)
        for k in (1, 0, 2):
            told = hall.come(0, "did", (HOME, k), (0, 5))
            self.assertEqual(told, ([], [(2, "work", (HOME, k), (1, 5, "take 2 %d" % k))]))

    def test_where_there_is_no_lead(self):
        hall = Hall()
        for word, more in (("did", (0, 5)), ("went", (0, 5)), ("yes", ()), ("undid", (0,))):
            for p in (OWN, P):
                self.assertEqual(hall.come(0, word, p, more), NOTHING)
        hall.begin("held take 0 0; take 2 0")
        hall.fall_and_rise()
        for word, more in (("did", (0, 5)), ("went", (0, 5)), ("yes", ()), ("undid", (0,))):
            self.assertEqual(hall.come(0, word, OWN, more), NOTHING)

    def test_a_need_that_is_not_met_ends_the_pact_at_once(self):
        hall = Hall()
        hall.begin("held take 0 0; need 9; take 1 0")
        self.assertEqual(hall.come(0, "did", OWN, (0, 8)), ([end(OWN)], [tell(0, OWN)]))


class ChasesTest(unittest.TestCase):
    PATH = ((P, 3), (Q, 2))

    def test_seek_about_a_pact_that_waits_for_an_answer(self):
        hall = Hall()
        hall.begin("held plus 1; take 0 0; take 3 0")
        self.assertEqual(hall.come(2, "seek", OWN, self.PATH), ([], [(0, "find", OWN, self.PATH)]))
        hall.come(0, "did", OWN, (1, 5))
        self.assertEqual(hall.come(2, "seek", OWN, self.PATH), ([], [(3, "find", OWN, self.PATH)]))
        self.assertEqual(hall.come(2, "seek", OWN, ()), ([], [(3, "find", OWN, ())]))

    def test_seek_about_a_pact_whose_step_is_at_this_house(self):
        hall = Hall()
        hall.begin("held take 1 0")
        self.assertEqual(hall.come(2, "seek", OWN, self.PATH), ([], [(1, "find", OWN, self.PATH)]))

    def test_seek_about_a_pact_that_asks_for_ready(self):
        hall = Hall()
        hall.begin("held take 0 0; plus 1")
        hall.come(0, "did", OWN, (0, 5))
        self.assertEqual(hall.come(2, "seek", OWN, self.PATH), NOTHING)

    def test_seek_about_a_pact_with_an_outcome(self):
        hall = Hall()
        hall.begin("held take 0 0; plus 1")
        hall.come(2, "tell", OWN, (), ((OWN, "broken"),))
        self.assertEqual(hall.come(2, "seek", OWN, self.PATH), NOTHING)
        # Also where the letter itself brings the outcome.
        hall.begin("held take 0 0; plus 1")
        told = hall.come(2, "seek", NEXT, self.PATH, ((NEXT, "broken"),))
        self.assertEqual(told, ([end(NEXT)], [tell(0, NEXT)]))

    def test_seek_about_a_walked_pact(self):
        hall = Hall()
        hall.begin("walked take 0 0; take 3 0")
        self.assertEqual(hall.come(2, "seek", OWN, self.PATH), NOTHING)

    def test_seek_about_a_pact_that_is_not_led_here(self):
        hall = Hall()
        hall.work(P, 0, 0, "give 1 0")
        hall.work(Q, 0, 0, "give 1 0")
        for p in (P, Q, R, OWN):
            self.assertEqual(hall.come(2, "seek", p, self.PATH), NOTHING)

    def test_seek_about_the_right_one_of_several(self):
        hall = Hall()
        hall.begin("held take 0 0")
        hall.begin("held take 3 0")
        self.assertEqual(hall.come(2, "seek", OWN, self.PATH), ([], [(0, "find", OWN, self.PATH)]))
        self.assertEqual(hall.come(2, "seek", NEXT, self.PATH), ([], [(3, "find", NEXT, self.PATH)]))

    def test_find(self):
        hall = Hall()
        hall.work(R, 0, 0, "give 1 0")
        self.assertEqual(hall.come(2, "find", R, self.PATH), NOTHING)
        self.assertEqual(hall.come(2, "find", Q, self.PATH), NOTHING)
        hall.work((3, 0), 0, 0, "give 1 0")
        self.assertEqual(hall.come(2, "find", (3, 0), ((P, 3),)), ([], [(2, "seek", R, ((P, 3), ((3, 0), HOME)))]))
        path = ((R, 3), ((3, 0), HOME))
        self.assertEqual(hall.come(2, "find", (3, 0), ((R, 3),)), ([], [(3, "ring", (3, 0), path)]))

    def test_ring_about_a_pact_without_an_outcome(self):
        hall = Hall()
        hall.begin("held take 0 0; take 2 0; take 1 0")
        self.assertEqual(hall.come(3, "ring", OWN, self.PATH), ([end(OWN)], [tell(0, OWN), tell(2, OWN)]))
        # Also while it asks for ready.
        hall.begin("held take 0 0")
        hall.come(0, "did", NEXT, (0, 5))
        self.assertEqual(hall.come(3, "ring", NEXT, self.PATH), ([end(NEXT)], [tell(0, NEXT)]))
        self.assertEqual(hall.come(0, "yes", NEXT), NOTHING)

    def test_ring_about_a_pact_with_an_outcome(self):
        hall = Hall()
        hall.begin("held take 0 0")
        hall.come(0, "did", OWN, (0, 5))
        hall.come(0, "yes", OWN)
        self.assertEqual(hall.house.stand.outcome(OWN), "done")
        self.assertEqual(hall.come(3, "ring", OWN, self.PATH), NOTHING)
        hall.begin("held take 0 0")
        hall.come(3, "ring", NEXT, self.PATH)
        self.assertEqual(hall.come(3, "ring", NEXT, self.PATH), NOTHING)

    def test_ring_about_a_walked_pact_and_one_that_is_not_led_here(self):
        hall = Hall()
        hall.begin("walked take 0 0; take 3 0")
        hall.work(P, 0, 0, "give 1 0")
        for p in (OWN, NEXT, P, Q):
            self.assertEqual(hall.come(3, "ring", p, self.PATH), NOTHING)
        self.assertEqual(hall.house.stand.news(), ())


class TurnTest(unittest.TestCase):
    def test_nothing_to_do(self):
        self.assertEqual(Hall().turn(), NOTHING)

    def test_the_works_then_the_leads_by_rising_names(self):
        hall = Hall()
        for k in range(11):
            hall.begin("held take 0 %d" % k)
        hall.bind(P)
        hall.work(R, 0, 0, "take 1 0")
        asks = [(to, "ask", P, (0, 1)) for to in (0, 2, 3)] + [(2, "ask", R, ()), (0, "seek", P, ((R, HOME),))]
        works = [(0, "work", (HOME, k), (0, 0, "take 0 %d" % k)) for k in range(11)]
        self.assertEqual(hall.turn(), ([], asks + works))

    def test_leads_of_both_manners_and_at_every_stage(self):
        hall = Hall()
        hall.begin("held take 0 0; take 2 0")
        hall.begin("walked take 0 0; give 2 0")
        hall.begin("walked add 0 0 1; add 2 0 1")
        hall.begin("held take 0 0")
        hall.come(0, "did", OWN, (0, 5))
        hall.come(0, "went", NEXT, (0, 6))
        hall.come(2, "tell", (1, 2), (), (((1, 2), "broken"),))
        hall.come(0, "did", (1, 3), (0, 5))
        self.assertEqual(hall.turn(), ([], [
            (2, "work", OWN, (1, 5, "take 2 0")), (2, "walk", NEXT, (1, 6, "give 2 0")),
            (2, "undo", (1, 2), (1, "add 2 0 1")), (0, "ready", (1, 3), (0,))]))

    def test_the_fourth_turn_ends_the_pact(self):
        hall = Hall()
        hall.begin("held add 1 0 1; take 2 0")
        hall.work(OWN, 0, 0, "add 1 0 1")
        present = ([], [(1, "work", OWN, (0, 0, "add 1 0 1"))])
        self.assertEqual([hall.turn() for k in range(3)], [present] * 3)
        hall.work(P, 3, 7, "take 1 0")
        # The works' turn comes first, and P waits still; then the lead breaks off, and P goes on.
        self.assertEqual(hall.turn(), ([end(OWN), ("work", P)], [
            (0, "ask", P, ()), (1, "seek", OWN, ((P, 1),)), (0, "did", P, (3, 10)), tell(2, OWN)]))
        self.assertEqual(hall.turn(), ([], [(0, "ask", P, ())]))

    def test_several_end_in_one_turn_by_rising_names(self):
        hall = Hall()
        hall.begin("held take 0 0")
        hall.begin("walked take 2 0; give 0 0")
        hall.turn()
        hall.begin("held take 3 0")
        hall.turn()
        hall.turn()
        third = (HOME, 2)
        self.assertEqual(hall.turn(), ([end(OWN), end(NEXT)], [
            tell(0, OWN), (2, "undo", NEXT, (0, "take 2 0")), (3, "work", third, (0, 0, "take 3 0"))]))
        self.assertEqual(hall.turn(), ([end(third)], [(2, "undo", NEXT, (0, "take 2 0")), tell(3, third)]))

    def test_letters_sent_ahead_bear_the_news_of_the_whole_turn(self):
        hall = Hall()
        hall.begin("held take 0 0")
        hall.begin("held take 3 0")
        for k in range(3):
            hall.turn()
        sheet = hall.house.turn()
        self.assertEqual([letter[3] for to, letter in sheet.letters_told()], [((OWN, "broken"), (NEXT, "broken"))] * 2)


class FallTest(unittest.TestCase):
    def test_all_but_the_book_is_gone(self):
        hall = Hall()
        hall.begin("held take 0 0")
        hall.begin("walked take 0 0; give 0 0")
        hall.work(P, 0, 5, "give 1 0")
        hall.bind(Q, "add 1 1 2")
        hall.work(R, 0, 0, "take 1 0")
        hall.come(0, "walk", (0, 7), (0, 4, "give 1 2"))
        rows = list(hall.house.rows)
        self.assertIs(hall.house.is_fallen(), False)
        self.assertEqual(hall.fall(), NOTHING)
        self.assertIs(hall.house.is_fallen(), True)
        self.assertEqual(hall.house.rows, rows)
        self.assertEqual(hall.house.stand.cells_told(), [10, 20, 4])
        self.assertEqual(hall.house.leads, {})
        self.assertEqual(hall.rise(), ([end(P), end(OWN), end(NEXT)], []))
        self.assertIs(hall.house.is_fallen(), False)
        self.assertEqual(hall.house.rows, rows + [end(P), end(OWN), end(NEXT)])
        # Of the waiting pact nothing is known any more; the bound one holds its locks.
        self.assertEqual(hall.locks(), ([(Q, change(1))], []))

    def test_an_empty_house(self):
        hall = Hall()
        self.assertEqual((hall.fall(), hall.rise(), hall.turn()), (NOTHING, NOTHING, NOTHING))

    def test_several_falls(self):
        hall = Hall()
        hall.bind(P)
        for k in range(3):
            self.assertEqual(hall.fall_and_rise(), NOTHING)
            self.assertEqual(hall.locks(), ([(P, change(0))], []))
        self.assertEqual(hall.come(0, "tell", P, (), ((P, "done"),)), ([end(P, "done")], []))
        self.assertEqual(hall.house.stand.cells_told(), [11, 20, 30])


class RiseTest(unittest.TestCase):
    def test_lost_pacts_by_rising_names_with_nothing_sent(self):
        hall = Hall()
        hall.work(R, 0, 5, "take 1 0")
        hall.work((0, 10), 0, 5, "take 1 0")
        hall.begin("held take 0 0; take 2 0")
        hall.work((0, 2), 0, 5, "take 1 0")
        hall.begin("walked take 0 0; give 2 0")
        hall.bind(P, "take 1 0")
        self.assertEqual(hall.fall_and_rise(), ([end((0, 2)), end((0, 10)), end(OWN), end(NEXT), end(R)], []))
        self.assertEqual(hall.locks(), ([(P, ("read", 0, 0))], []))

    def test_a_lost_pact_that_is_bound_here(self):
        hall = Hall()
        hall.begin("held add 1 0 5; take 2 0")
        hall.work(OWN, 0, 0, "add 1 0 5")
        hall.come(1, "ready", OWN, (1, 2))
        self.assertEqual(hall.fall_and_rise(), ([end(OWN)], []))
        self.assertEqual(hall.locks(), ([], []))
        self.assertEqual(hall.house.stand.cells_told(), [10, 20, 30])
        # It is known here now, so who asks is told.
        self.assertEqual(hall.come(2, "ask", OWN, (1, 2)), ([], [tell(2, OWN)]))

    def test_bound_pacts_are_not_lost(self):
        hall = Hall()
        hall.bind(R, "add 1 1 1", (1, 2))
        hall.bind(P, "add 1 0 1", (0, 1))
        self.assertEqual(hall.fall_and_rise(), NOTHING)
        self.assertEqual(hall.locks(), ([(R, change(1)), (P, change(0))], []))
        self.assertEqual(hall.come(0, "ready", P, (0, 1)), ([], [(0, "yes", P, ())]))
        self.assertEqual(hall.turn(), ([], [(to, "ask", P, (0, 1)) for to in (0, 2, 3)]
                                       + [(to, "ask", R, (1, 2)) for to in (0, 2, 3)]))

    def test_held_leads_are_not_there_again(self):
        hall = Hall()
        hall.begin("held take 0 0; take 2 0")
        hall.begin("held take 0 0")
        hall.come(0, "did", NEXT, (0, 5))
        hall.come(0, "yes", NEXT)
        self.assertEqual(hall.fall_and_rise(), ([end(OWN)], []))
        self.assertEqual(hall.house.leads, {})
        self.assertEqual([hall.turn() for k in range(5)], [NOTHING] * 5)

    def test_a_walked_pact_that_is_done_and_not_over(self):
        hall = Hall()
        hall.begin("walked plus 1; take 0 0; give 2 0; plus 5; give 3 0")
        hall.come(0, "went", OWN, (1, 7))
        self.assertEqual(hall.come(2, "went", OWN, (2, 7)), ([], [(3, "walk", OWN, (4, 12, "give 3 0"))]))
        self.assertEqual(hall.fall_and_rise(), NOTHING)
        # It is as it was when it was ended: from the turning on.
        for k in range(5):
            self.assertEqual(hall.turn(), ([], [(2, "walk", OWN, (2, 7, "give 2 0"))]))
        self.assertEqual(hall.come(3, "went", OWN, (4, 12)), NOTHING)
        self.assertEqual(hall.come(2, "went", OWN, (2, 7)), ([], [(3, "walk", OWN, (4, 12, "give 3 0"))]))
        self.assertEqual(hall.come(3, "went", OWN, (4, 12)), ([("over", OWN)], []))
        self.assertEqual(hall.turn(), NOTHING)

    def test_a_walked_pact_that_is_broken_and_not_over(self):
        hall = Hall()
        hall.begin("walked take 0 0; plus 1; add 2 0 4; need 99; give 3 0")
        hall.come(0, "went", OWN, (0, 7))
        hall.come(2, "went", OWN, (2, 8))
        hall.come(2, "undid", OWN, (2,))
        self.assertEqual(hall.fall_and_rise(), NOTHING)
        # From the last step ahead of the turning back, though that one was undone already.
        for k in range(5):
            self.assertEqual(hall.turn(), ([], [(2, "undo", OWN, (2, "add 2 0 4"))]))
        self.assertEqual(hall.come(0, "undid", OWN, (0,)), NOTHING)
        self.assertEqual(hall.come(2, "undid", OWN, (2,)), ([], [(0, "undo", OWN, (0, "take 0 0"))]))
        self.assertEqual(hall.come(0, "undid", OWN, (0,)), ([("over", OWN)], []))

    def test_a_walked_pact_that_the_fall_broke_off(self):
        hall = Hall()
        hall.begin("walked take 0 0; add 2 0 4; give 3 0")
        self.assertEqual(hall.fall_and_rise(), ([end(OWN)], []))
        self.assertEqual(hall.come(0, "went", OWN, (0, 5)), NOTHING)
        self.assertEqual(hall.turn(), ([], [(2, "undo", OWN, (1, "add 2 0 4"))]))
        self.assertEqual(hall.come(2, "undid", OWN, (1,)), ([], [(0, "undo", OWN, (0, "take 0 0"))]))
        # Answers that come ahead of the first turn count too.
        hall.fall_and_rise()
        self.assertEqual(hall.come(2, "undid", OWN, (1,)), ([], [(0, "undo", OWN, (0, "take 0 0"))]))
        self.assertEqual(hall.come(0, "undid", OWN, (0,)), ([("over", OWN)], []))

    def test_from_books_as_they_may_be(self):
        """Books with an end row and no over row, though nothing is left to do: the over row goes at a turn."""
        for text, row in (("walked plus 1; take 0 0", end(OWN, "done", (1, 5))), ("walked plus 1; give 0 0", end(OWN)),
                          ("walked plus 1", end(OWN, "done", (1,))), ("walked need 1; plus 1", end(OWN))):
            hall = Hall()
            hall.write(("begin", OWN, text), row)
            self.assertEqual(hall.fall_and_rise(), NOTHING)
            self.assertEqual(hall.turn(), ([("over", OWN)], []))
            self.assertEqual((hall.turn(), hall.fall_and_rise(), hall.turn()), (NOTHING, NOTHING, NOTHING))

    def test_several_walked_pacts_by_rising_names(self):
        hall = Hall()
        for k in range(11):
            hall.begin("walked take 0 %d; give 2 %d" % (k, k))
        for k in range(0, 11, 2):
            hall.come(0, "went", (HOME, k), (0, 50 + k))
        self.assertEqual(hall.fall_and_rise(), ([end((HOME, k)) for k in range(1, 11, 2)], []))
        letters = []
        for k in range(11):
            letters.append((0, "undo", (HOME, k), (0, "take 0 %d" % k)) if k % 2 else
                           (2, "walk", (HOME, k), (1, 50 + k, "give 2 %d" % k)))
        self.assertEqual(hall.turn(), ([], letters))

    def test_walked_pacts_that_are_over_are_not_there_again(self):
        hall = Hall()
        hall.begin("walked plus 1")
        hall.begin("walked need 1; take 0 0")
        hall.come(0, "undid", NEXT, (1,))
        hall.begin("walked take 0 0; give 2 0")
        hall.come(0, "went", (1, 2), (0, 5))
        self.assertEqual(hall.house.rows.count(("over", OWN)), 1)
        self.assertEqual(hall.house.rows.count(("over", NEXT)), 1)
        self.assertEqual(hall.fall_and_rise(), NOTHING)
        self.assertEqual(list(hall.house.leads), [(1, 2)])
        self.assertIsInstance(hall.house.leads[(1, 2)], WalkedLead)
        self.assertNotIsInstance(hall.house.leads[(1, 2)], HeldLead)
        self.assertEqual(hall.turn(), ([], [(2, "walk", (1, 2), (1, 5, "give 2 0"))]))

    def test_no_seek_is_answered_about_what_was_lost(self):
        hall = Hall()
        hall.begin("held take 0 0")
        hall.fall_and_rise()
        self.assertEqual(hall.come(2, "seek", OWN, ((P, 3),)), NOTHING)
        self.assertEqual(hall.come(2, "ring", OWN, ((P, 3), (OWN, 0))), NOTHING)

    def test_the_fourth_turn_is_counted_anew_for_none(self):
        hall = Hall()
        hall.begin("held take 0 0")
        hall.turn()
        hall.fall_and_rise()
        hall.begin("held take 0 0")
        present = ([], [(0, "work", NEXT, (0, 0, "take 0 0"))])
        self.assertEqual([hall.turn() for k in range(3)], [present] * 3)
        self.assertEqual(hall.turn(), ([end(NEXT)], [tell(0, NEXT)]))


class AskersOwnTest(unittest.TestCase):
    def test_the_first_cells_handed_in(self):
        cells = [10, 20]
        house = House(cells, 0, 1)
        cells[0] = 99
        house.come(0, ("walk", (0, 3), (0, 7, "give 0 1"), ()))
        self.assertEqual((cells, house.stand.cells_told()), ([99, 20], [10, 7]))

    def test_two_houses_know_nothing_of_one_another(self):
        cells = [10, 20]
        one, other = House(cells, 0, 2), House(cells, 0, 2)
        one.begin("held take 1 0")
        one.come(1, ("work", (1, 0), (0, 5, "give 0 0"), (((1, 7), "done"),)))
        one.come(1, ("walk", (1, 1), (0, 5, "give 0 1"), ()))
        self.assertEqual((other.rows, other.leads, other.stand.news(), other.stand.cells_told()), ([], {}, (), cells))
        self.assertEqual((other.works.held(), other.turn().letters_told()), ([], []))


if __name__ == "__main__":
    unittest.main()
