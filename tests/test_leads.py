import random
import unittest

from pactroom.leads import PATIENCE, HeldLead, Lead, WalkedLead, lead_of
from pactroom.pacts import Pact, houses_of, read_pact, turning
from pactroom.sheets import Sheet
from pactroom.stands import Stand
from pactroom.steps import PlusStep, TakeStep

P = (1, 4)


class Desk:
    """A lead of a pact, with a new sheet for each thing that it is told."""

    def __init__(self, text, name=P):
        self.name = name
        self.stand = Stand([0] * 8)
        self.lead = lead_of(name, read_pact(text))

    def told(self, deed):
        sheet = Sheet(self.stand)
        outcome = deed(sheet)
        return (outcome, sheet.rows_told(), [(to, letter[:3]) for to, letter in sheet.letters_told()])

    def go(self):
        return self.told(self.lead.go)

    def turn(self):
        return self.told(self.lead.turn)

    def came(self, word, sender, *more):
        return self.told(lambda sheet: self.lead.came(sheet, word, sender, more))

    def end(self, outcome):
        return self.told(lambda sheet: self.lead.end(sheet, outcome))


def sent(*letters, name=P):
    return (None, [], [(to, (word, name, more)) for to, word, more in letters])


def named(outcome):
    return (outcome, [], [])


NOTHING = (None, [], [])
OVER = (None, [("over", P)], [])


class MakingTest(unittest.TestCase):
    def test_of_the_manner(self):
        held = lead_of(P, read_pact("held plus 1"))
        walked = lead_of(P, read_pact("walked plus 1"))
        self.assertIsInstance(held, HeldLead)
        self.assertIsInstance(walked, WalkedLead)
        for lead in (held, walked):
            self.assertIsInstance(lead, Lead)
        self.assertNotIsInstance(held, WalkedLead)
        self.assertNotIsInstance(walked, HeldLead)

    def test_patience(self):
        self.assertEqual(PATIENCE, 4)

    def test_arguments_by_their_names(self):
        sheet = Sheet(Stand([0]))
        for kind, text in ((HeldLead, "held take 0 0; plus 1"), (WalkedLead, "walked take 0 0; plus 1; give 0 0")):
            lead = kind(name=P, pact=read_pact(text))
            self.assertIs(lead.go(sheet=sheet), None)
            self.assertIs(lead.turn(sheet=sheet), None)
            self.assertIs(lead.came(sheet=sheet, word="yes", sender=1, more=()), None)
            self.assertIs(lead.end(sheet=sheet, outcome="broken"), None)
        self.assertIsInstance(lead_of(name=P, pact=read_pact("held plus 1")), HeldLead)
        self.assertIsInstance(Lead(name=P, pact=read_pact("held plus 1")), Lead)


class StepsTest(unittest.TestCase):
    """What held and walked leads do alike on their way along the steps."""

    WORDS = (("held", "work", "did"), ("walked", "walk", "went"))

    def test_the_letter_bears_the_hand_ahead_of_the_step(self):
        for manner, word, answer in self.WORDS:
            desk = Desk(manner + " take 0 1; add 2 0 -3; sum 1 0 5; mean 0 2")
            self.assertEqual(desk.go(), sent((0, word, (0, 0, "take 0 1"))))
            self.assertEqual(desk.came(answer, 0, 0, 17), sent((2, word, (1, 17, "add 2 0 -3"))))
            self.assertEqual(desk.came(answer, 2, 1, 17), sent((1, word, (2, 17, "sum 1 0 5"))))
            self.assertEqual(desk.came(answer, 1, 2, -10 ** 45), sent((0, word, (3, -10 ** 45, "mean 0 2"))))

    def test_a_step_at_the_leads_own_house_is_asked_for_like_others(self):
        for manner, word, answer in self.WORDS:
            desk = Desk(manner + " take 1 0; plus 1; take 0 0")
            self.assertEqual(desk.go(), sent((1, word, (0, 0, "take 1 0"))))

    def test_steps_at_no_house_at_the_start(self):
        for manner, word, answer in self.WORDS:
            desk = Desk(manner + " plus 5; plus -2; need 3; take 0 1")
            self.assertEqual(desk.go(), sent((0, word, (3, 3, "take 0 1"))))

    def test_steps_at_no_house_in_a_row_amid(self):
        for manner, word, answer in self.WORDS:
            desk = Desk(manner + " take 0 1; plus 10; need 0; plus 100; add 2 3 4")
            desk.go()
            self.assertEqual(desk.came(answer, 0, 0, 7), sent((2, word, (4, 117, "add 2 3 4"))))

    def test_the_present_letter_again(self):
        for manner, word, answer in self.WORDS:
            desk = Desk(manner + " plus 1; take 0 1; plus 1; add 2 3 4")
            first = desk.go()
            self.assertEqual(desk.go(), first)
            second = desk.came(answer, 0, 1, 7)
            self.assertEqual(second, sent((2, word, (3, 8, "add 2 3 4"))))
            self.assertEqual(desk.go(), second)
            self.assertEqual(desk.go(), second)

    def test_other_answers_are_passed_over(self):
        for manner, word, answer in self.WORDS:
            others = [each for each in ("did", "went", "yes", "undid") if each != answer]
            desk = Desk(manner + " plus 1; take 0 1; plus 2; take 2 1; plus 3; take 0 2")
            desk.go()
            for number in (0, 2, 3, 4, 5, 6, 10 ** 39):
                self.assertEqual(desk.came(answer, 0, number, 50), NOTHING)
            for other in others:
                self.assertEqual(desk.came(other, 0, 1, 50), NOTHING)
            self.assertEqual(desk.came("yes", 0), NOTHING)
            self.assertEqual(desk.came("undid", 0, 1), NOTHING)
            self.assertEqual(desk.came(answer, 0, 1, 7), sent((2, word, (3, 9, "take 2 1"))))
            # The same answer once more comes too late.
            self.assertEqual(desk.came(answer, 0, 1, 80), NOTHING)
            self.assertEqual(desk.go(), sent((2, word, (3, 9, "take 2 1"))))

    def test_a_need_just_met_and_just_not_met_as_the_first_step(self):
        for manner, word, answer in self.WORDS:
            self.assertEqual(Desk(manner + " need 0; take 0 1").go(), sent((0, word, (1, 0, "take 0 1"))))
            self.assertEqual(Desk(manner + " need 1; take 0 1").go(), named("broken"))
            self.assertEqual(Desk(manner + " plus 5; need 5; take 0 1").go(), sent((0, word, (2, 5, "take 0 1"))))
            self.assertEqual(Desk(manner + " plus 5; need 6; take 0 1").go(), named("broken"))

    def test_a_need_just_met_and_just_not_met_behind_an_answer(self):
        for manner, word, answer in self.WORDS:
            for hand, told in ((8, sent((2, word, (2, 8, "take 2 1")))), (7, named("broken")), (-8, named("broken"))):
                desk = Desk(manner + " take 0 1; need 8; take 2 1")
                desk.go()
                self.assertEqual(desk.came(answer, 0, 0, hand), told)

    def test_a_need_not_met_as_the_last_step(self):
        for manner, word, answer in self.WORDS:
            desk = Desk(manner + " take 0 1; need 8")
            desk.go()
            self.assertEqual(desk.came(answer, 0, 0, 7), named("broken"))

    def test_behind_a_named_outcome_nothing_is_named_or_sent_ahead_of_the_end(self):
        for manner, word, answer in self.WORDS:
            desk = Desk(manner + " take 0 1; need 8; take 0 2; plus 1")
            desk.go()
            self.assertEqual(desk.came(answer, 0, 0, 7), named("broken"))
            self.assertEqual(desk.go(), NOTHING)
            for number in range(4):
                self.assertEqual(desk.came(answer, 0, number, 99), NOTHING)
            for k in range(5):
                self.assertEqual(desk.turn(), NOTHING)

    def test_hands_of_many_figures(self):
        for manner, word, answer in self.WORDS:
            desk = Desk(manner + " take 0 1; plus -1; need 0; add 0 2 1")
            desk.go()
            self.assertEqual(desk.came(answer, 0, 0, 10 ** 399), sent((0, word, (3, 10 ** 399 - 1, "add 0 2 1"))))

    def test_every_letter_bears_the_leads_name(self):
        name = (10 ** 39, 10 ** 39)
        for manner, word, answer in self.WORDS:
            desk = Desk(manner + " take 0 1", name)
            self.assertEqual(desk.go(), sent((0, word, (0, 0, "take 0 1")), name=name))


class HeldTest(unittest.TestCase):
    def asking(self, text="held take 3 1; add 0 0 1; take 1 1; plus 1", name=P):
        """A desk whose lead has just sent ready, with what was told."""
        desk = Desk(text, name)
        told = desk.go()
        while told[2] and told[2][0][1][0] == "work":
            letter = told[2][0][1]
            told = desk.came("did", told[2][0][0], letter[2][0], 0)
        return desk, told

    def ready(self, *houses):
        return sent(*[(house, "ready", (0, 1, 3)) for house in houses])

    def test_ready_goes_to_each_house_rising(self):
        desk, told = self.asking()
        self.assertEqual(told, self.ready(0, 1, 3))
        desk, told = self.asking("held take 0 0")
        self.assertEqual(told, sent((0, "ready", (0,))))
        desk, told = self.asking("held take 10 0; take 9 0; take 10 1")
        self.assertEqual(told, sent((9, "ready", (9, 10)), (10, "ready", (9, 10))))

    def test_done_when_all_have_said_yes(self):
        for order in ((0, 1, 3), (3, 1, 0), (1, 3, 0)):
            desk, told = self.asking()
            self.assertEqual(desk.came("yes", order[0]), NOTHING)
            self.assertEqual(desk.came("yes", order[1]), NOTHING)
            self.assertEqual(desk.came("yes", order[2]), named("done"))

    def test_the_same_yes_twice(self):
        desk, told = self.asking()
        for house in (0, 0, 0, 1, 0, 1, 1):
            self.assertEqual(desk.came("yes", house), NOTHING)
        self.assertEqual(desk.came("yes", 3), named("done"))

    def test_a_yes_of_a_house_that_is_none_of_the_pacts(self):
        desk, told = self.asking()
        for house in (0, 2, 4, 10 ** 39, 1):
            self.assertEqual(desk.came("yes", house), NOTHING)
        self.assertEqual(desk.came("yes", 3), named("done"))

    def test_a_yes_ahead_of_ready_is_not_noted(self):
        desk = Desk("held take 0 0; take 1 0")
        for house in (0, 1):
            self.assertEqual(desk.came("yes", house), NOTHING)
        desk.go()
        for house in (0, 1):
            self.assertEqual(desk.came("yes", house), NOTHING)
        desk.came("did", 0, 0, 0)
        for house in (0, 1):
            self.assertEqual(desk.came("yes", house), NOTHING)
        self.assertEqual(desk.came("did", 1, 1, 0), sent((0, "ready", (0, 1)), (1, "ready", (0, 1))))
        self.assertEqual(desk.came("yes", 0), NOTHING)
        self.assertEqual(desk.came("yes", 1), named("done"))

    def test_other_answers_while_ready_is_asked_for(self):
        desk, told = self.asking()
        for number in range(6):
            self.assertEqual(desk.came("did", 0, number, 5), NOTHING)
            self.assertEqual(desk.came("went", 0, number, 5), NOTHING)
            self.assertEqual(desk.came("undid", 0, number), NOTHING)
        self.assertEqual(desk.go(), self.ready(0, 1, 3))

    def test_ready_again_to_those_alone_that_have_not_said_yes(self):
        desk, told = self.asking()
        self.assertEqual(desk.go(), self.ready(0, 1, 3))
        desk.came("yes", 1)
        self.assertEqual(desk.go(), self.ready(0, 3))
        self.assertEqual(desk.turn(), self.ready(0, 3))
        desk.came("yes", 0)
        self.assertEqual(desk.turn(), self.ready(3))
        desk.came("yes", 2)
        self.assertEqual(desk.turn(), self.ready(3))
        self.assertEqual(desk.came("yes", 3), named("done"))

    def test_no_houses_at_all(self):
        self.assertEqual(Desk("held plus 1").go(), named("done"))
        self.assertEqual(Desk("held plus 1; need 1; plus -7").go(), named("done"))
        self.assertEqual(Desk("held plus 1; need 2; plus -7").go(), named("broken"))
        self.assertEqual(Desk("held need 0").go(), named("done"))
        desk = Desk("held plus 1")
        desk.go()
        self.assertEqual(desk.end("done"), NOTHING)
        self.assertEqual(desk.turn(), NOTHING)

    def test_steps_at_no_house_at_the_end(self):
        desk = Desk("held take 0 0; plus 1; need 8; plus 1")
        desk.go()
        self.assertEqual(desk.came("did", 0, 0, 7), sent((0, "ready", (0,))))
        self.assertEqual(desk.came("yes", 0), named("done"))

    def test_a_give_is_a_step_like_others(self):
        desk = Desk("held give 0 0; need 0; take 2 0; give 0 1")
        self.assertEqual(desk.go(), sent((0, "work", (0, 0, "give 0 0"))))
        self.assertEqual(desk.came("did", 0, 0, 0), sent((2, "work", (2, 0, "take 2 0"))))
        self.assertEqual(desk.came("did", 2, 2, 6), sent((0, "work", (3, 6, "give 0 1"))))
        self.assertEqual(desk.came("did", 0, 3, 6), sent((0, "ready", (0, 2)), (2, "ready", (0, 2))))

    def test_ended_done_tells_all_houses_but_its_own(self):
        desk, told = self.asking()
        for house in (0, 1, 3):
            told = desk.came("yes", house)
        self.assertEqual(told, named("done"))
        self.assertEqual(desk.end("done"), sent((0, "tell", ()), (3, "tell", ())))

    def test_ended_broken_tells_all_houses_but_its_own(self):
        tells = sent((0, "tell", ()), (3, "tell", ()))
        desk, told = self.asking()
        desk.came("yes", 0)
        self.assertEqual(desk.end("broken"), tells)
        # Also houses that no letter has reached yet.
        desk = Desk("held take 3 1; add 0 0 1; take 1 1; plus 1")
        desk.go()
        self.assertEqual(desk.end("broken"), tells)
        desk = Desk("held need 1; take 3 1; add 0 0 1; take 1 1")
        self.assertEqual(desk.go(), named("broken"))
        self.assertEqual(desk.end("broken"), tells)

    def test_tells_where_the_leader_is_none_of_the_houses_or_the_only_one(self):
        desk = Desk("held take 3 1; take 0 0", (2, 0))
        desk.go()
        self.assertEqual(desk.end("broken"), sent((0, "tell", ()), (3, "tell", ()), name=(2, 0)))
        desk = Desk("held take 3 1; take 3 0", (3, 0))
        desk.go()
        self.assertEqual(desk.end("broken"), NOTHING)

    def test_everything_behind_its_end_does_nothing(self):
        for outcome in ("done", "broken"):
            for asked in (False, True):
                desk = Desk("held take 0 0; take 2 0")
                desk.go()
                if asked:
                    desk.came("did", 0, 0, 0)
                    desk.came("did", 2, 1, 0)
                desk.end(outcome)
                told = [desk.go(), desk.came("yes", 0), desk.came("yes", 2), desk.came("went", 0, 0, 1),
                        desk.came("did", 0, 0, 1), desk.came("did", 2, 1, 1), desk.came("undid", 2, 1)]
                told += [desk.turn() for k in range(6)] + [desk.end("done"), desk.end("broken"), desk.go()]
                self.assertEqual(told, [NOTHING] * len(told))

    def test_letters_bear_the_news_of_the_sheet(self):
        stand = Stand([0])
        lead = lead_of(P, read_pact("held take 0 0; take 2 0"))
        lead.go(Sheet(stand))
        sheet = Sheet(stand)
        sheet.row(("end", P, "broken", ()))
        lead.end(sheet, "broken")
        self.assertEqual(sheet.letters_told(), [(0, ("tell", P, (), ((P, "broken"),))),
                                                (2, ("tell", P, (), ((P, "broken"),)))])


class WalkedTest(unittest.TestCase):
    def test_done_where_no_give_is_there(self):
        desk = Desk("walked take 0 0; add 2 0 1; plus 1")
        self.assertEqual(desk.go(), sent((0, "walk", (0, 0, "take 0 0"))))
        self.assertEqual(desk.came("went", 0, 0, 7), sent((2, "walk", (1, 7, "add 2 0 1"))))
        self.assertEqual(desk.came("went", 2, 1, 7), named("done"))
        self.assertEqual(desk.end("done"), OVER)

    def test_the_turning_at_the_first_step(self):
        desk = Desk("walked give 0 0; take 2 1")
        self.assertEqual(desk.go(), named("done"))
        self.assertEqual(desk.end("done"), sent((0, "walk", (0, 0, "give 0 0"))))
        self.assertEqual(desk.came("went", 0, 0, 0), sent((2, "walk", (1, 0, "take 2 1"))))
        self.assertEqual(desk.came("went", 2, 1, 9), OVER)

    def test_the_turning_amid(self):
        desk = Desk("walked take 0 0; plus 5; need 12; give 2 0; plus 1; add 0 1 1; give 0 2; plus 1")
        self.assertEqual(desk.go(), sent((0, "walk", (0, 0, "take 0 0"))))
        self.assertEqual(desk.came("went", 0, 0, 7), named("done"))
        self.assertEqual(desk.end("done"), sent((2, "walk", (3, 12, "give 2 0"))))
        self.assertEqual(desk.came("went", 2, 3, 12), sent((0, "walk", (5, 13, "add 0 1 1"))))
        self.assertEqual(desk.came("went", 0, 5, 13), sent((0, "walk", (6, 13, "give 0 2"))))
        self.assertEqual(desk.came("went", 0, 6, 13), OVER)

    def test_the_turning_at_the_last_step(self):
        desk = Desk("walked take 0 0; give 2 0")
        desk.go()
        self.assertEqual(desk.came("went", 0, 0, 7), named("done"))
        self.assertEqual(desk.end("done"), sent((2, "walk", (1, 7, "give 2 0"))))
        self.assertEqual(desk.came("went", 2, 1, 7), OVER)

    def test_all_steps_at_no_house(self):
        desk = Desk("walked plus 1; need 1; plus 1")
        self.assertEqual(desk.go(), named("done"))
        self.assertEqual(desk.end("done"), OVER)
        self.assertEqual(desk.go(), NOTHING)
        desk = Desk("walked plus 1; need 2; plus 1")
        self.assertEqual(desk.go(), named("broken"))
        self.assertEqual(desk.end("broken"), OVER)
        self.assertEqual(desk.go(), NOTHING)

    def test_done_is_named_just_once(self):
        desk = Desk("walked take 0 0; give 2 0; take 0 1")
        desk.go()
        self.assertEqual(desk.came("went", 0, 0, 7), named("done"))
        told = [desk.came("went", 0, 0, 7), desk.came("went", 2, 1, 7), desk.go(), desk.turn(), desk.turn(),
                desk.turn(), desk.turn()]
        self.assertEqual(told, [NOTHING] * 7)
        # The answers that came ahead of the end were passed over.
        give = sent((2, "walk", (1, 7, "give 2 0")))
        take = sent((0, "walk", (2, 7, "take 0 1")))
        told = [desk.end("done"), desk.go(), desk.came("went", 2, 1, 7), desk.turn(), desk.came("went", 0, 2, 7),
                desk.turn(), desk.go()]
        self.assertEqual(told, [give, give, take, take, OVER, NOTHING, NOTHING])

    def test_behind_the_turning_other_answers_are_passed_over(self):
        desk = Desk("walked take 0 0; give 2 0; take 0 1")
        desk.go()
        desk.came("went", 0, 0, 7)
        desk.end("done")
        for told in (desk.came("went", 0, 0, 7), desk.came("went", 0, 2, 7), desk.came("went", 0, 3, 7),
                     desk.came("did", 2, 1, 7), desk.came("undid", 2, 1), desk.came("undid", 0, 0),
                     desk.came("yes", 2)):
            self.assertEqual(told, NOTHING)
        self.assertEqual(desk.came("went", 2, 1, 7), sent((0, "walk", (2, 7, "take 0 1"))))

    def test_the_over_row_is_written_once(self):
        desk = Desk("walked take 0 0; give 2 0")
        desk.go()
        desk.came("went", 0, 0, 7)
        desk.end("done")
        self.assertEqual(desk.came("went", 2, 1, 7), OVER)
        told = [desk.came("went", 2, 1, 7), desk.came("went", 0, 2, 7), desk.go(), desk.turn(), desk.turn(),
                desk.came("undid", 0, 0), desk.end("done"), desk.end("broken"), desk.go()]
        self.assertEqual(told, [NOTHING] * len(told))

    def test_no_tell_goes_when_it_is_ended(self):
        for outcome in ("done", "broken"):
            desk = Desk("walked plus 1; take 3 0; take 0 0")
            desk.go()
            words = [letter[0] for to, letter in desk.end(outcome)[2]]
            self.assertNotIn("tell", words)

    def test_the_over_row_bears_the_leads_name(self):
        desk = Desk("walked plus 1", (10 ** 39, 10 ** 39))
        desk.go()
        self.assertEqual(desk.end("done"), (None, [("over", (10 ** 39, 10 ** 39))], []))


class BrokenOffTest(unittest.TestCase):
    TEXT = "walked plus 1; take 0 0; add 2 0 1; plus 1; sum 3 1 2; give 0 0; add 2 1 5"
    UNDONE = ((3, (4, "sum 3 1 2")), (2, (2, "add 2 0 1")), (0, (1, "take 0 0")))

    def undo(self, k):
        to, more = self.UNDONE[k]
        return sent((to, "undo", more))

    def check_undoing(self, desk):
        self.assertEqual(desk.end("broken"), self.undo(0))
        self.assertEqual(desk.came("undid", 3, 4), self.undo(1))
        self.assertEqual(desk.came("undid", 2, 2), self.undo(2))
        self.assertEqual(desk.came("undid", 0, 1), OVER)
        told = [desk.came("undid", 0, 1), desk.go(), desk.turn(), desk.end("broken"), desk.came("undid", 3, 4)]
        self.assertEqual(told, [NOTHING] * 5)

    def test_none_some_and_all_steps_done(self):
        desk = Desk(self.TEXT)
        desk.go()
        self.check_undoing(desk)
        desk = Desk(self.TEXT)
        desk.go()
        desk.came("went", 0, 1, 5)
        self.check_undoing(desk)
        desk = Desk(self.TEXT)
        desk.go()
        desk.came("went", 0, 1, 5)
        desk.came("went", 2, 2, 5)
        self.check_undoing(desk)
        desk = Desk(self.TEXT)
        desk.go()
        desk.came("went", 0, 1, 5)
        desk.came("went", 2, 2, 5)
        self.assertEqual(desk.came("went", 3, 4, 5), named("done"))
        self.check_undoing(desk)

    def test_all_steps_where_no_give_is_there(self):
        desk = Desk("walked take 0 0; add 2 0 1; need 9; add 0 1 1")
        desk.go()
        desk.came("went", 0, 0, 5)
        self.assertEqual(desk.came("went", 2, 1, 5), named("broken"))
        self.assertEqual(desk.end("broken"), sent((0, "undo", (3, "add 0 1 1"))))
        self.assertEqual(desk.came("undid", 0, 3), sent((2, "undo", (1, "add 2 0 1"))))
        self.assertEqual(desk.came("undid", 2, 1), sent((0, "undo", (0, "take 0 0"))))
        self.assertEqual(desk.came("undid", 0, 0), OVER)

    def test_other_answers_are_passed_over(self):
        desk = Desk(self.TEXT)
        desk.go()
        desk.came("went", 0, 1, 5)
        # Ahead of the end nothing is to be undone yet.
        for number in range(7):
            self.assertEqual(desk.came("undid", 0, number), NOTHING)
        desk.end("broken")
        for number in (0, 1, 2, 3, 5, 6, 7):
            self.assertEqual(desk.came("undid", 0, number), NOTHING)
        for number in range(7):
            self.assertEqual(desk.came("went", 2, number, 5), NOTHING)
            self.assertEqual(desk.came("did", 2, number, 5), NOTHING)
        self.assertEqual(desk.came("yes", 3), NOTHING)
        self.assertEqual(desk.go(), self.undo(0))
        desk.came("undid", 3, 4)
        self.assertEqual(desk.came("undid", 3, 4), NOTHING)
        self.assertEqual(desk.came("went", 2, 2, 5), NOTHING)
        self.assertEqual(desk.go(), self.undo(1))

    def test_an_over_row_where_nothing_is_to_undo(self):
        desk = Desk("walked plus 1; need 2; give 0 0; add 2 1 5")
        self.assertEqual(desk.go(), named("broken"))
        self.assertEqual(desk.end("broken"), OVER)
        told = [desk.go(), desk.turn(), desk.came("undid", 0, 2), desk.came("went", 0, 2, 5), desk.end("broken")]
        self.assertEqual(told, [NOTHING] * 5)

    def test_a_named_need_that_is_not_met_is_undone_only_when_ended(self):
        desk = Desk("walked take 0 0; need 8; give 0 1")
        desk.go()
        self.assertEqual(desk.came("went", 0, 0, 7), named("broken"))
        self.assertEqual(desk.came("undid", 0, 0), NOTHING)
        self.assertEqual(desk.end("broken"), sent((0, "undo", (0, "take 0 0"))))
        self.assertEqual(desk.came("undid", 0, 0), OVER)

    def test_one_step_of_twelve_houses(self):
        desk = Desk("walked " + "; ".join(["add %d 0 1" % k for k in range(12)]))
        desk.go()
        told = desk.end("broken")
        for k in range(11, -1, -1):
            self.assertEqual(told, sent((k, "undo", (k, "add %d 0 1" % k))))
            told = desk.came("undid", k, k)
        self.assertEqual(told, OVER)


class TurnTest(unittest.TestCase):
    WORDS = (("held", "work", "did"), ("walked", "walk", "went"))

    def test_the_fourth_turn_without_an_answer(self):
        for manner, word, answer in self.WORDS:
            desk = Desk(manner + " plus 3; take 0 0; take 2 0")
            first = desk.go()
            self.assertEqual(first, sent((0, word, (1, 3, "take 0 0"))))
            self.assertEqual([desk.turn(), desk.turn(), desk.turn()], [first] * 3)
            self.assertEqual(desk.turn(), named("broken"))

    def test_answers_in_between_make_no_new_count(self):
        for manner, word, answer in self.WORDS:
            desk = Desk(manner + " take 0 0; take 2 0; take 0 1; take 2 1; take 0 2")
            desk.go()
            for k in range(3):
                present = desk.came(answer, 0, k, 7)
                self.assertEqual(len(present[2]), 1)
                self.assertEqual(desk.turn(), present)
            desk.came(answer, 0, 3, 7)
            self.assertEqual(desk.turn(), named("broken"))

    def test_going_is_no_turn(self):
        for manner, word, answer in self.WORDS:
            desk = Desk(manner + " take 0 0")
            first = desk.go()
            self.assertEqual([desk.go() for k in range(6)], [first] * 6)
            self.assertEqual([desk.turn() for k in range(3)], [first] * 3)
            self.assertEqual(desk.turn(), named("broken"))

    def test_the_fourth_turn_while_ready_is_asked_for(self):
        desk = Desk("held take 0 0; take 2 0")
        desk.go()
        desk.turn()
        desk.came("did", 0, 0, 7)
        desk.came("did", 2, 1, 7)
        self.assertEqual(desk.turn(), sent((0, "ready", (0, 2)), (2, "ready", (0, 2))))
        desk.came("yes", 0)
        self.assertEqual(desk.turn(), sent((2, "ready", (0, 2))))
        self.assertEqual(desk.turn(), named("broken"))
        # What comes behind changes the outcome no more.
        self.assertEqual(desk.came("yes", 2), NOTHING)

    def test_a_held_lead_that_is_ended(self):
        for outcome in ("done", "broken"):
            desk = Desk("held take 0 0; take 2 0")
            desk.go()
            desk.turn()
            desk.end(outcome)
            self.assertEqual([desk.turn() for k in range(6)], [NOTHING] * 6)

    def test_a_walked_lead_that_is_done_with_something_left(self):
        desk = Desk("walked take 0 0; give 2 0; take 0 1")
        desk.go()
        desk.turn()
        desk.turn()
        desk.came("went", 0, 0, 7)
        present = desk.end("done")
        self.assertEqual([desk.turn() for k in range(6)], [present] * 6)
        present = desk.came("went", 2, 1, 7)
        self.assertEqual([desk.turn() for k in range(6)], [present] * 6)
        self.assertEqual(desk.came("went", 0, 2, 7), OVER)
        self.assertEqual([desk.turn() for k in range(6)], [NOTHING] * 6)

    def test_a_walked_lead_that_is_broken_with_something_left(self):
        desk = Desk("walked take 0 0; add 2 0 1")
        desk.go()
        desk.turn()
        present = desk.end("broken")
        self.assertEqual(present, sent((2, "undo", (1, "add 2 0 1"))))
        self.assertEqual([desk.turn() for k in range(6)], [present] * 6)
        present = desk.came("undid", 2, 1)
        self.assertEqual(present, sent((0, "undo", (0, "take 0 0"))))
        self.assertEqual([desk.turn() for k in range(6)], [present] * 6)
        self.assertEqual(desk.came("undid", 0, 0), OVER)
        self.assertEqual([desk.turn() for k in range(6)], [NOTHING] * 6)

    def test_the_fourth_turn_then_the_end(self):
        desk = Desk("walked take 0 0; give 2 0")
        desk.go()
        for k in range(3):
            desk.turn()
        self.assertEqual(desk.turn(), named("broken"))
        self.assertEqual(desk.came("went", 0, 0, 7), NOTHING)
        self.assertEqual(desk.end("broken"), sent((0, "undo", (0, "take 0 0"))))


class ComeUpTest(unittest.TestCase):
    """A walked lead that is there again behind a fall, as it was when it was ended."""

    TEXT = "walked plus 1; take 0 0; add 2 0 1; plus 1; give 0 0; plus 2; add 2 1 5; plus 1"

    def desk(self, outcome, hands, text=TEXT):
        desk = Desk(text)
        self.assertIs(desk.lead.come_up(outcome, hands), None)
        return desk

    def test_done(self):
        desk = self.desk("done", (1, 50, 50, 51))
        self.assertEqual([desk.turn() for k in range(6)], [sent((0, "walk", (4, 51, "give 0 0")))] * 6)
        for stray in (desk.came("went", 0, 1, 9), desk.came("went", 2, 6, 9), desk.came("undid", 2, 2)):
            self.assertEqual(stray, NOTHING)
        self.assertEqual(desk.came("went", 0, 4, 51), sent((2, "walk", (6, 53, "add 2 1 5"))))
        self.assertEqual(desk.came("went", 2, 6, 53), OVER)
        self.assertEqual([desk.turn(), desk.go()], [NOTHING] * 2)

    def test_broken(self):
        desk = self.desk("broken", ())
        self.assertEqual([desk.turn() for k in range(6)], [sent((2, "undo", (2, "add 2 0 1")))] * 6)
        for stray in (desk.came("undid", 0, 1), desk.came("went", 0, 1, 9), desk.came("went", 2, 2, 9)):
            self.assertEqual(stray, NOTHING)
        self.assertEqual(desk.came("undid", 2, 2), sent((0, "undo", (1, "take 0 0"))))
        self.assertEqual(desk.came("undid", 0, 1), OVER)
        self.assertEqual([desk.turn(), desk.go()], [NOTHING] * 2)

    def test_nothing_left(self):
        for text, outcome, hands in (("walked plus 1", "done", (1,)), ("walked plus 1; give 0 0", "broken", ())):
            desk = self.desk(outcome, hands, text)
            self.assertEqual([desk.turn(), desk.turn()], [OVER, NOTHING])

    def test_it_is_ended_already(self):
        desk = self.desk("done", (1, 50, 50, 51))
        self.assertEqual([desk.end("broken"), desk.end("done")], [NOTHING] * 2)
        self.assertEqual(desk.turn(), sent((0, "walk", (4, 51, "give 0 0"))))


class AskersOwnTest(unittest.TestCase):
    def test_the_pact_handed_in_is_not_changed_and_not_kept(self):
        for manner, word in (("held", "work"), ("walked", "walk")):
            pact = Pact(manner, [TakeStep(0, 0), PlusStep(1), TakeStep(2, 0)])
            text = pact.spelled()
            lead = lead_of(P, pact)
            lead.go(Sheet(Stand([0])))
            lead.end(Sheet(Stand([0])), "broken")
            self.assertEqual((pact.spelled(), len(pact.steps)), (text, 3))
            lead = lead_of(P, pact)
            pact.steps.clear()
            sheet = Sheet(Stand([0]))
            lead.go(sheet)
            self.assertEqual(sheet.letters_told(), [(0, (word, P, (0, 0, "take 0 0"), ()))])

    def test_two_leads_of_one_pact(self):
        for manner, answer in (("held", "did"), ("walked", "went")):
            pact = read_pact(manner + " take 0 0; add 2 0 1")
            one = lead_of(P, pact)
            other = lead_of((0, 0), pact)
            sheet = Sheet(Stand([0]))
            one.go(sheet)
            one.came(sheet, answer, 0, (0, 7))
            one.came(sheet, answer, 2, (1, 7))
            one.came(sheet, "yes", 0, ())
            one.end(sheet, "broken")
            one.came(sheet, "undid", 2, (1,))
            desk = Desk(manner + " take 0 0; add 2 0 1", (0, 0))
            expected = [desk.go(), desk.came(answer, 0, 0, 5), desk.came(answer, 2, 1, 5), desk.end("broken")]
            desk.lead = other
            self.assertEqual([desk.go(), desk.came(answer, 0, 0, 5), desk.came(answer, 2, 1, 5), desk.end("broken")],
                             expected)


class WholeWayTest(unittest.TestCase):
    """Whole ways of drawn pacts, with each true answer amid others that are none."""

    def draw_text(self, chance, manner):
        parts = []
        given = False
        for k in range(chance.randrange(1, 13)):
            word = chance.choice(("take", "mean", "sum", "give", "add", "plus", "need"))
            if word == "need" and given and manner == "walked":
                word = "plus"
            given = given or word == "give"
            house = chance.randrange(4)
            tails = {"take": "%d 1", "mean": "%d 2", "sum": "%d 0 3", "give": "%d 0", "add": "%d 1 -2"}
            parts.append(word + " " + (tails[word] % house if word in tails else str(chance.randrange(-3, 4))))
        return manner + " " + "; ".join(parts)

    def strays(self, chance, desk, true):
        """Some answers that are not the true one: each is passed over."""
        for k in range(chance.randrange(3)):
            stray = (chance.choice(("did", "went", "undid")), chance.randrange(12), chance.randrange(50))
            if stray[:2] != true[:2]:
                self.assertEqual(desk.came(stray[0], chance.randrange(4), *stray[1:]), NOTHING)

    def along(self, chance, desk, steps, word, answer, told, numbers, hand):
        """Answers the steps with these numbers; tells what was told last and the hand behind."""
        for k in numbers:
            step = steps[k]
            if step.house() is None:
                head, amount = step.spelled().split(" ")
                if head == "need" and hand < int(amount):
                    self.assertEqual(told, named("broken"))
                    return None, hand
                hand += int(amount) if head == "plus" else 0
                continue
            self.assertEqual(told, sent((step.house(), word, (k, hand, step.spelled()))))
            self.strays(chance, desk, (answer, k))
            if chance.randrange(6) == 0:
                self.assertEqual(desk.go(), told)
            hand = chance.randrange(-5, 10)
            told = desk.came(answer, step.house(), k, hand)
        return told, hand

    def test_held(self):
        for seed in range(400):
            chance = random.Random(seed)
            text = self.draw_text(chance, "held")
            desk = Desk(text)
            pact = read_pact(text)
            houses = houses_of(pact)
            numbers = range(len(pact.steps))
            told, hand = self.along(chance, desk, pact.steps, "work", "did", desk.go(), numbers, 0)
            outcome = "broken" if told is None else "done"
            if told is not None and houses:
                self.assertEqual(told, sent(*[(house, "ready", houses) for house in houses]))
                for house in chance.sample(houses, len(houses)):
                    self.assertEqual(told[0], None)
                    told = desk.came("yes", house)
            if told is not None:
                self.assertEqual(told, named("done"))
            self.assertEqual(desk.end(outcome), sent(*[(house, "tell", ()) for house in houses if house != P[0]]))
            self.assertEqual([desk.go(), desk.turn()], [NOTHING] * 2)

    def undo_all(self, chance, desk, steps, told):
        for k in range(len(steps) - 1, -1, -1):
            if steps[k].house() is not None:
                self.assertEqual(told, sent((steps[k].house(), "undo", (k, steps[k].spelled()))))
                self.strays(chance, desk, ("undid", k))
                told = desk.came("undid", steps[k].house(), k)
        return told

    def test_walked(self):
        for seed in range(400):
            chance = random.Random(seed)
            text = self.draw_text(chance, "walked")
            desk = Desk(text)
            pact = read_pact(text)
            bend = turning(pact)
            told, hand = self.along(chance, desk, pact.steps, "walk", "went", desk.go(), range(bend), 0)
            if told is None:
                told = self.undo_all(chance, desk, pact.steps[:bend], desk.end("broken"))
            else:
                self.assertEqual(told, named("done"))
                rest = range(bend, len(pact.steps))
                told, hand = self.along(chance, desk, pact.steps, "walk", "went", desk.end("done"), rest, hand)
            self.assertEqual(told, OVER)
            self.assertEqual([desk.go(), desk.turn()], [NOTHING] * 2)


if __name__ == "__main__":
    unittest.main()
