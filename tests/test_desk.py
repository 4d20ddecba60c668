"""Point 27: the desk."""

import unittest

import helper
from onewithin.alone import alone
from onewithin.desk import Desk
from onewithin.errors import NoCall, NoHand, NoKept, NoKind, NoMany, NoName, NoText, NoWay, TooMany
from onewithin.kinds import with_kind
from onewithin.known import known_way
from onewithin.rings import kept_out, stuck
from onewithin.safety import two_within
from onewithin.tables import all_standings
from onewithin.turns import most_goings, out_of_turn
from onewithin.waytexts import show_way

SMALL = "box whole 2 0; hand 0 1; write 0 1"
# Of each kind one row that is answered at a desk that keeps a way by the name a.
RIGHT = ("way a " + SMALL, "known a peterson 2", "kind a whole", "show a", "count a", "two a", "kept a 0", "stuck a",
         "turn a 0 1", "goings a 0", "alone a 0", "paper")


def row_of(way):
    return show_way(way).replace("\n", "; ")


def ways():
    return [known_way(name, 2) for name in ("peterson", "dekker", "turns", "filter", "flags", "onebit")] + [
        helper.turns(3), helper.flags(3, "torn"), helper.careless(2), helper.careless(3), helper.onebit("either"),
        ((("torn", 2, 1),), (helper.plain_hand(1),)), ((("whole", 2, 0),), ((0, 1, (("look", 0, (), 1),)),) * 2)]


class Desks(unittest.TestCase):
    def setUp(self):
        self.desk = Desk()

    def said(self, *rows):
        return [self.desk.say(row) for row in rows]

    def refuses(self, told, kind, **fields):
        with self.assertRaises(kind) as caught:
            self.desk.say(told)
        for field, value in fields.items():
            self.assertEqual(getattr(caught.exception, field), value)
            self.assertIs(type(getattr(caught.exception, field)), type(value))


class Answers(Desks):
    def test_keeping_and_showing(self):
        self.assertEqual(self.said("way a " + SMALL, "show a"), ["ok", SMALL])
        self.assertEqual(self.said("way b box torn 3 2; hand 1 2; write 0 1; look 0 - 2", "show b", "show a"),
                         ["ok", "box torn 3 2; hand 1 2; write 0 1; look 0 - 2", SMALL])
        for way in ways():
            self.assertEqual(self.said("way abcdefgh " + row_of(way), "show abcdefgh"), ["ok", row_of(way)])

    def test_known(self):
        for name, manys in (("turns", (2, 3, 4)), ("peterson", (2,)), ("dekker", (2,)), ("filter", (2, 3)),
                            ("flags", (2, 3, 4)), ("onebit", (2, 3, 4))):
            for many in manys:
                self.assertEqual(self.said(f"known w {name} {many}", "show w"), ["ok", row_of(known_way(name, many))])

    def test_kind(self):
        self.said("known a flags 2", "known b flags 2")
        for kind in ("torn", "either", "whole"):
            self.assertEqual(self.said("kind a " + kind, "show a"), ["ok", row_of(helper.flags(2, kind))])
        self.said("kind a torn")
        self.assertEqual(self.said("show b", "count a"), [row_of(helper.flags(2)),
                                                          str(len(all_standings(helper.flags(2, "torn"))))])

    def test_in_the_place_of_what_was(self):
        self.said("known a flags 2", "way a " + SMALL)
        self.assertEqual(self.desk.say("show a"), SMALL)
        self.said("known a turns 3")
        self.assertEqual(self.desk.say("show a"), row_of(helper.turns(3)))

    def test_by_the_functions(self):
        for way in ways():
            hands = range(len(way[1]))
            self.assertEqual(self.desk.say("way w " + row_of(way)), "ok")
            run = two_within(way)
            self.assertEqual(self.desk.say("two w"), "never" if run is None else str(len(run)))
            self.assertEqual(self.desk.say("count w"), str(len(all_standings(way))))
            self.assertEqual(self.desk.say("stuck w"), "never" if stuck(way) is None else "stuck")
            for hand in hands:
                self.assertEqual(self.desk.say(f"kept w {hand}"), "never" if kept_out(way, hand) is None else "kept out")
                most = most_goings(way, hand)
                self.assertEqual(self.desk.say(f"goings w {hand}"), "endless" if most is None else str(most))
                self.assertEqual(self.desk.say(f"alone w {hand}"),
                                 " ".join("-" if many is None else str(many) for many in alone(way, hand)))
                for other in hands:
                    if hand != other:
                        run = out_of_turn(way, hand, other)
                        self.assertEqual(self.desk.say(f"turn w {hand} {other}"), "never" if run is None else str(len(run)))

    def test_word_for_word(self):
        self.said("known p peterson 2", "known d dekker 2", "known f flags 2", "known t turns 3", "known c flags 2",
                  "kind c torn", "way s box whole 2 0; hand 0 1; look 0 - 1")
        for row, answer in (
                ("two p", "never"), ("two c", "9"), ("kept p 1", "never"), ("kept f 0", "kept out"), ("stuck p", "never"),
                ("stuck f", "stuck"), ("turn p 0 1", "never"), ("turn d 1 0", "8"), ("turn d 0 1", "13"),
                ("goings p 0", "1"), ("goings f 1", "0"), ("goings d 0", "endless"), ("goings t 2", "2"),
                ("alone p 0", "4 5"), ("alone t 1", "- -"), ("alone s 0", "1 -"), ("count p", "48")):
            self.assertEqual(self.desk.say(row), answer, row)


class PaperRow(Desks):
    def test_none_at_first(self):
        self.assertEqual(self.desk.say("paper"), "none")
        self.said("known p peterson 2", "show p", "count p", "alone p 0", "kind p whole")
        self.assertEqual(self.desk.say("paper"), "none")

    def test_of_each_question(self):
        for way in ways():
            rows = ["two w", "stuck w"] + [f"{word} w {hand}" for word in ("kept", "goings") for hand in range(len(way[1]))]
            rows += ["turn w 0 1"] if len(way[1]) > 1 else []
            for row in rows:
                desk = Desk()
                desk.say("way w " + row_of(way))
                self.assertEqual(desk.say("paper"), "none")
                desk.say(row)
                self.assertEqual(desk.say("paper"), "holds", (way, row))

    def test_whatever_came_between(self):
        self.said("known p peterson 2", "two p")
        for row in ("show p", "count p", "alone p 1", "way p " + SMALL, "known q flags 3", "kind q torn", "paper"):
            self.desk.say(row)
            self.assertEqual(self.desk.say("paper"), "holds", row)
        for row in ("two z", "turn p 0 0", "kept p 7", "goings q 9", "two", "paper p", None, "kind p wooden"):
            with self.assertRaises(ValueError):
                self.desk.say(row)
            self.assertEqual(self.desk.say("paper"), "holds", row)

    def test_none_where_all_were_refused(self):
        self.said("known p peterson 2", "way v " + row_of(helper.vast()))
        for row in ("two z", "two v", "stuck v", "kept v 0", "turn v 0 1", "goings v 0", "kept p 2", "turn p 1 1"):
            with self.assertRaises(ValueError):
                self.desk.say(row)
            self.assertEqual(self.desk.say("paper"), "none", row)

    def test_what_the_checker_is_asked(self):
        # By a checker that takes nothing, or just some claims, it is seen which ones it is asked.
        from onewithin import desk as module
        real = module.holds
        asked = []
        try:
            module.holds = lambda claim, paper: bool(asked.append((claim, real(claim, paper))))
            self.said("known p peterson 2", "known f flags 2")
            peterson, flags = known_way("peterson", 2), known_way("flags", 2)
            for row, claims in (
                    ("two p", [("never two", peterson)]), ("kept f 1", [("kept out", flags, 1)]),
                    ("stuck f", [("stuck", flags)]), ("turn p 1 0", [("in turn", peterson, 1, 0)]),
                    ("goings p 1", [("goings", peterson, 1, 1), ("as many", peterson, 1, 1)]),
                    ("goings f 1", [("goings", flags, 1, 0)])):
                asked.clear()
                self.desk.say(row)
                self.assertEqual(asked, [])
                # Ways kept meanwhile by the same names are no matter.
                self.said("known p turns 4", "known f turns 4")
                self.assertEqual(self.desk.say("paper"), "no")
                self.assertEqual(asked, [(claim, True) for claim in claims])
                self.said("known p peterson 2", "known f flags 2")
            self.desk.say("goings p 1")
            for word in ("goings", "as many"):
                module.holds = lambda claim, paper: claim[0] == word
                self.assertEqual(self.desk.say("paper"), "no")
        finally:
            module.holds = real
        self.assertEqual(self.desk.say("paper"), "holds")


class Refusals(Desks):
    def no_call(self, *rows):
        for row in rows:
            self.refuses(row, NoCall, row=row)

    def test_what_is_no_text(self):
        for odd in helper.ODD:
            if not isinstance(odd, str):
                with self.assertRaises(NoCall) as caught:
                    self.desk.say(odd)
                self.assertIs(caught.exception.row, odd)

    def test_first_words(self):
        self.said("known a peterson 2")
        self.no_call("", " ", "  ", "a", "ways a", "Way a " + SMALL, "TWO a", "Two a", "tw a", "twoo a", "say a", "0 a",
                     "read a", "tree a", "hidden a 0 1", "paperx", "papers", "Paper", "none", "hello")
        for row in RIGHT:
            self.no_call(" " + row, row.capitalize(), row.upper(), "x" + row, row[1:])

    def test_numbers_of_words(self):
        self.said("known a peterson 2")
        self.no_call("way", "way a", "way ", "known", "known a", "known a peterson", "known peterson 2", "kind", "kind a",
                     "show", "count", "two", "kept", "kept a", "stuck", "turn", "turn a", "turn a 0", "goings", "goings a",
                     "alone", "alone a")
        for row in RIGHT[1:]:
            self.no_call(row + " ", row + " a", row + " 0", row + "  ", row + " " + row)
        self.no_call("paper a", "paper ", "two a b", "count a a", "kept a 0 1", "turn a 0 1 1", "alone a 0 0")

    def test_one_blank_between(self):
        self.said("known a peterson 2")
        for row in RIGHT[1:-1]:
            words = row.split(" ")
            for at in range(1, len(words)):
                self.no_call(" ".join(words[:at]) + "  " + " ".join(words[at:]))
                self.no_call(" ".join(words[:at]) + "\t" + " ".join(words[at:]))
        self.no_call("way  a " + SMALL, "way\ta " + SMALL, "known a  2", "kind a ", "known  peterson 2")

    def test_names(self):
        self.said("known a peterson 2")
        for name in ("A", "a1", "1", "abcdefghi", "a-b", "a_b", "aB", "-", "\u00e4", "a;", "abcdefgh1", "\u0430"):
            for row in RIGHT[:-1]:
                words = row.split(" ")
                self.no_call(" ".join([words[0], name] + words[2:]))
        for name in ("a", "z", "abcdefgh", "paper", "two", "way", "never"):
            self.assertEqual(self.said(f"known {name} peterson 2", f"two {name}"), ["ok", "never"])

    def test_hands_and_manys(self):
        self.said("known a peterson 2")
        for odd in ("00", "01", "10", "-", "-1", "+1", "a", "x", "0.", "\u0661", "\u00b2", "1;", "None"):
            self.no_call("known a peterson " + odd, "kept a " + odd, "turn a 0 " + odd, f"turn a {odd} 0", "goings a " + odd,
                         "alone a " + odd)

    def test_line_ends(self):
        self.said("known a peterson 2")
        for row in RIGHT:
            self.no_call(row + "\n", "\n" + row, row.replace(" ", "\n", 1) + "\n")
        self.no_call("way a " + SMALL.replace("; ", "\n"), "way a \n", "two\na", "two a\n")

    def test_whatever_the_name(self):
        # No way is kept by it, or there is none of the word: the row is looked at first.
        for name in ("a", "zzz", "A"):
            self.no_call(f"kept {name} 00", f"turn {name} 0", f"turn {name} x 0", f"known {name} wooden 22",
                         f"two {name}\n", f"way {name} box\n", f"goings {name}", f"alone {name} -", f"see {name}")

    def test_no_kept(self):
        for row in RIGHT[2:-1]:
            words = row.split(" ")
            for name in ("a", "abcdefgh", "none"):
                self.refuses(" ".join([words[0], name] + words[2:]), NoKept, name=name)
        # Ahead of what the functions refuse.
        for row in ("kind a wooden", "kept a 9", "turn a 9 9", "turn a 0 0", "goings a 5", "alone a 7"):
            self.refuses(row, NoKept, name="a")
        self.said("known b peterson 2")
        self.refuses("two a", NoKept, name="a")

    def test_ways(self):
        self.refuses("way a ", NoText, part=0)
        self.refuses("way a  ", NoText, part=0)
        for text, part in (("box", 0), ("box whole 2 0", 1), (SMALL + ";", 2), (SMALL + "; ", 3), (" " + SMALL, 0),
                           (SMALL + " ", 2), (SMALL.replace("; ", ";"), 0), (SMALL.replace("; ", ";  "), 1),
                           (SMALL.replace("; ", " ; "), 0), (SMALL.replace("; ", ";\t"), 0), ("; " + SMALL, 0),
                           (SMALL.replace("hand 0 1", "hand 0 2"), 3), (SMALL.replace("hand", "Hand"), 1),
                           (SMALL.replace("; ", "; ; ", 1), 1), ("own whole 2 0; hand 0 1; write 0 0", 0)):
            self.refuses("way a " + text, NoText, part=part)
        self.refuses("show a", NoKept, name="a")

    def test_known(self):
        for word in ("wooden", "Peterson", "peterson;", "2", "two", "a" * 50):
            self.refuses(f"known a {word} 2", NoName)
            self.refuses(f"known a {word} 9", NoName)
        for row in ("peterson 3", "peterson 0", "dekker 1", "turns 1", "turns 5", "filter 4", "flags 9", "onebit 0"):
            self.refuses("known a " + row, NoMany)
        self.refuses("show a", NoKept, name="a")

    def test_kinds(self):
        self.said("known a peterson 2", "known b flags 2")
        for kind in ("wooden", "Whole", "torn;", "0", "a"):
            self.refuses("kind a " + kind, NoKind)
        for kind in ("either", "torn"):
            self.refuses("kind a " + kind, NoWay)
            self.assertEqual(self.desk.say("show a"), row_of(known_way("peterson", 2)))

    def test_hands(self):
        self.said("known a peterson 2", "way v " + row_of(helper.vast()))
        for row in ("kept a 2", "goings a 9", "alone a 3", "turn a 2 0", "turn a 0 2", "turn a 0 0", "turn a 1 1",
                    "kept v 4", "goings v 4", "alone v 4", "turn v 0 4", "turn v 3 3"):
            self.refuses(row, NoHand)

    def test_too_many(self):
        for way in (helper.vast(), helper.just_3001()):
            self.said("way v " + row_of(way))
            for row in ("count v", "two v", "kept v 1", "stuck v", "turn v 1 0", "goings v 2"):
                self.refuses(row, TooMany)
        self.assertEqual(self.said("alone v 0", "show v"), ["16 17", row_of(helper.just_3001())])

    def test_what_is_refused_keeps_and_changes_nothing(self):
        self.said("known a peterson 2", "two a", "known b flags 2")
        before = self.said("show a", "show b", "paper")
        for row in ("way a ", "way a box", "way a " + SMALL + "\n", "way A " + SMALL, "known a wooden 2", "known a turns 5",
                    "known a turns", "kind a torn", "kind a wooden", "kind b wooden", "kind c torn", "way c box whole 2 0",
                    "known c wooden 2", "kept a 2", "two c", "paper a"):
            with self.assertRaises(ValueError):
                self.desk.say(row)
            self.assertEqual(self.said("show a", "show b", "paper"), before)
            self.refuses("show c", NoKept, name="c")


class TwoDesks(Desks):
    def test_they_share_nothing(self):
        other = Desk()
        self.said("known a peterson 2", "two a")
        self.assertEqual(other.say("paper"), "none")
        with self.assertRaises(NoKept):
            other.say("two a")
        other.say("known a turns 3")
        self.assertEqual(self.said("show a", "paper"), [row_of(helper.peterson()), "holds"])
        self.assertEqual([other.say("show a"), other.say("paper")], [row_of(helper.turns(3)), "none"])
        other.say("kind a whole")
        self.said("known b flags 2")
        with self.assertRaises(NoKept):
            other.say("show b")

    def test_a_kind_changes_one_name_alone(self):
        self.said("known a flags 2", "known b flags 2", "kind a torn")
        self.assertEqual(self.said("show a", "show b"), [row_of(helper.flags(2, "torn")), row_of(helper.flags(2))])
        self.assertEqual(with_kind(known_way("flags", 2), "torn"), helper.flags(2, "torn"))

    def test_the_same_answers_again(self):
        rows = ("known p peterson 2", "two p", "paper", "goings p 0", "paper", "known d dekker 2", "turn d 0 1", "alone d 1")
        first = self.said(*rows)
        self.assertEqual(self.said(*rows), first)
        self.desk = Desk()
        self.assertEqual(self.said(*rows), first)


if __name__ == "__main__":
    unittest.main()
