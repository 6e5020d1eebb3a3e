"""Promise [44]: leads as texts, whole or by half."""

import itertools
import random
import re
import unittest

from rungonce.errors import InvalidBells, InvalidLead, InvalidText
from rungonce.leadtexts import lead_text, read_lead, short_text
from samples import BAD_LEADS, ODD_BELLS, ODD_VALUES, all_changes, check_errors, some_lead

L = ((0, 2), (1,), (0, 2), (2,))


def words_of(bells):
    """The texts of all changes, found by what moves."""
    words = {}
    for change in all_changes(bells):
        moved = [place for low in change for place in (low, low + 1)]
        words["".join(str(place + 1) for place in range(bells) if place not in moved) or "x"] = change
    return words


def joined(texts):
    text = ""
    for ahead, behind in zip([""] + texts, texts):
        text += "." + behind if ahead not in ("", "x") and behind != "x" else behind
    return text


def goes_on(words, text, count=0, ahead=""):
    """Whether some text begins with these signs; so many changes are behind.

    Ahead stands the text of the last change, or the dot behind it, or, at the beginning, nothing.
    """
    if text == "":
        return True
    changed = ahead not in ("", ".")
    if changed and text[0] == ",":
        return count <= 12 and any(word.startswith(text[1:]) for word in words)
    if changed and text[0] == ".":
        return ahead != "x" and count < 24 and goes_on(words, text[1:], count, ".")
    for word in words:
        apart = ahead in ("", "x") or (word == "x") == (ahead != ".")
        if count < 24 and apart:
            if word.startswith(text):
                return True
            if text.startswith(word) and goes_on(words, text[len(word):], count + 1, word):
                return True
    return False


def is_text(words, text):
    """Whether this is a text of a lead with few changes."""
    figures = "|".join(word for word in words if word != "x")
    sign = "x|" if "x" in words else ""
    half, comma, last = text.partition(",")
    whole = re.fullmatch("(" + sign + "(" + figures + r")($|(?=x)|\.(?=[1-6])))+", half)
    return bool(whole) and (comma == "" or last in words)


def first_wrong(words, text):
    """The index that the error has to have, or None where the text is that of a lead with few changes."""
    for at in range(len(text)):
        if not goes_on(words, text[:at + 1]):
            return at
    return None if is_text(words, text) else len(text)


def known_texts(bells, most):
    """All leads of at most so many changes, by their texts and short texts."""
    words = words_of(bells)
    texts = {change: word for word, change in words.items()}
    known = {}
    for many in range(1, most + 1):
        for lead in itertools.product(sorted(texts), repeat=many):
            known[joined([texts[change] for change in lead])] = lead
            half = many // 2
            if many % 2 == 0 and all(lead[at] == lead[many - 2 - at] for at in range(many - 1)):
                known[joined([texts[change] for change in lead[:half]]) + "," + texts[lead[-1]]] = lead
    return known


class LeadTexts(unittest.TestCase):
    def refused(self, bells, text):
        with self.assertRaises(InvalidText) as caught:
            read_lead(bells, text)
        return caught.exception.at

    def test_examples(self):
        self.assertEqual(
            [lead_text(4, L), short_text(4, L), read_lead(4, "x14,12") == L, lead_text(3, ((0,), (1,))),
             short_text(3, ((0,),)), lead_text(2, ((), ()))],
            ["x14x12", "x14,12", True, "3.1", None, "12.12"])
        self.assertEqual(self.refused(4, "x13"), 2)

    def test_texts_of_one_change(self):
        for bells in range(2, 7):
            for word, change in words_of(bells).items():
                self.assertEqual(lead_text(bells, (change,)), word)
                self.assertEqual(read_lead(bells, word), (change,))
                self.assertIsNone(short_text(bells, (change,)))
        self.assertEqual(lead_text(6, ((), (0, 2, 4), (1, 3))), "123456x16")

    def test_all_short_leads(self):
        for bells, most in ((2, 6), (3, 6), (4, 4), (5, 3), (6, 2)):
            known = known_texts(bells, most)
            shorts = {lead: text for text, lead in known.items() if "," in text}
            for text, lead in known.items():
                self.assertEqual(read_lead(bells, text), lead)
                if "," not in text:
                    self.assertEqual(lead_text(bells, lead), text)
                    self.assertEqual(short_text(bells, lead), shorts.get(lead))

    def test_all_signs_in_turn(self):
        for bells, signs, most in ((2, "12x.,3", 6), (3, "123x.,", 6), (4, "124x.,", 6), (6, "12346x.,", 4)):
            words = words_of(bells)
            for many in range(most + 1):
                for text in map("".join, itertools.product(signs, repeat=many)):
                    wrong = first_wrong(words, text)
                    if wrong is None:
                        lead = read_lead(bells, text)
                        self.assertIn(text, (lead_text(bells, lead), short_text(bells, lead)))
                    else:
                        self.assertEqual(self.refused(bells, text), wrong, text)

    def test_texts_with_one_wrong_sign(self):
        dice = random.Random(44)
        for bells in (2, 3, 4, 5, 6):
            words = words_of(bells)
            for _ in range(120):
                lead = some_lead(dice, bells, 24)
                text = lead_text(bells, lead)
                if dice.random() < 0.5 and len(lead) <= 12:
                    lead = lead + lead[:-1][::-1] + (dice.choice(all_changes(bells)),)
                    text = short_text(bells, lead)
                at = dice.randint(0, len(text))
                wrong = text[:at] + dice.choice("123456x.,0 7-") + text[at:]
                expected = next((k for k in range(len(wrong)) if not goes_on(words, wrong[:k + 1])), None)
                if expected is not None:
                    self.assertEqual(self.refused(bells, wrong), expected, wrong)

    def test_read_back_from_both(self):
        dice = random.Random(9)
        for bells in range(2, 7):
            for _ in range(60):
                lead = some_lead(dice, bells, 24)
                self.assertEqual(read_lead(bells, lead_text(bells, lead)), lead)
                half = some_lead(dice, bells, 12)
                mirrored = half + half[:-1][::-1] + some_lead(dice, bells, 1)
                text = short_text(bells, mirrored)
                self.assertEqual(text, lead_text(bells, half) + "," + lead_text(bells, mirrored[-1:]))
                self.assertEqual(read_lead(bells, text), mirrored)
                self.assertEqual(read_lead(bells, lead_text(bells, mirrored)), mirrored)

    def test_which_leads_are_mirrored(self):
        self.assertEqual(short_text(3, ((0,), (1,))), "3,1")
        self.assertEqual(short_text(3, ((0,), (1,), (0,), ())), "3.1,123")
        self.assertIsNone(short_text(3, ((0,), (1,), (1,), ())))
        self.assertIsNone(short_text(3, ((0,), (1,), (0,))))
        self.assertIsNone(short_text(3, ((0,), (1,), (0,), (1,), (1,), ())))
        self.assertIsNotNone(short_text(3, ((0,),) * 24))
        self.assertIsNone(short_text(3, ((0,),) * 23))

    def test_texts_that_end_too_early(self):
        for bells, text in ((4, ""), (4, "x,"), (4, "14."), (4, "x14x14,"), (6, "x123"), (5, "12"), (4, "x,1"),
                            (2, "1"), (2, "12,1"), (3, "3.1."), (5, "3,12")):
            self.assertEqual(self.refused(bells, text), len(text), (bells, text))

    def test_first_sign_where_no_text_goes_on(self):
        for bells, text, at in ((4, ".", 0), (4, ",", 0), (4, "x.", 1), (4, "x.14", 1), (4, "14.x", 3), (4, "14..", 3),
                                (4, "x,x,", 3), (4, "x,14.", 4), (4, "x,xx", 3), (3, "x", 0), (5, "x", 0), (3, "2", 0),
                                (4, "X", 0), (4, " x", 0), (4, "x ", 1), (4, "x\n", 1), (4, "1414", 2), (4, "15", 1),
                                (4, "0", 0), (2, "121", 2), (2, "3", 0), (3, "1,,", 2), (4, "41", 0), (3, "1" * 4000, 1)):
            self.assertEqual(self.refused(bells, text), at, (bells, text))

    def test_one_change_and_twenty_four(self):
        self.assertEqual(read_lead(4, "x" * 24), ((0, 2),) * 24)
        self.assertEqual(self.refused(4, "x" * 25), 24)
        self.assertEqual(self.refused(4, "x" * 4000), 24)
        self.assertEqual(self.refused(4, "x" * 24 + "1"), 24)
        full = ".".join(["123"] * 24)
        self.assertEqual(read_lead(3, full), ((),) * 24)
        self.assertEqual(self.refused(3, full + "."), len(full))
        self.assertEqual(self.refused(3, full + ","), len(full))
        self.assertEqual(self.refused(3, full[:-1]), len(full) - 1)
        self.assertEqual(self.refused(4, "14" + "x14" * 11 + "xx"), 36)
        self.assertEqual(self.refused(4, "14" + "x14" * 11 + "x."), 36)

    def test_half_leads_have_at_most_twelve_changes(self):
        self.assertEqual(read_lead(4, "x" * 12 + ",14"), ((0, 2),) * 23 + ((1,),))
        self.assertEqual(self.refused(4, "x" * 13 + ",14"), 13)
        self.assertEqual(read_lead(4, "x,14"), ((0, 2), (1,)))
        half = ".".join(["1"] * 12)
        self.assertEqual(read_lead(3, half + ",3"), ((1,),) * 23 + ((0,),))
        self.assertEqual(self.refused(3, half + ".1,3"), len(half) + 2)
        self.assertEqual(self.refused(3, half + ",3.1"), len(half) + 2)

    def test_errors(self):
        bells, leads = (ODD_BELLS, InvalidBells), (BAD_LEADS, InvalidLead)
        check_errors(self, lead_text, (4, L), [bells, leads])
        check_errors(self, short_text, (4, L), [bells, leads])
        no_texts = [value for value in ODD_VALUES if not isinstance(value, str)] + [0, b"x14", ["x14"], ("x14",), L]
        check_errors(self, read_lead, (4, "x14"), [bells, (no_texts + ["", "0", "x15", "x,x,x"], InvalidText)])
        for value in no_texts:
            self.assertEqual(self.refused(4, value), 0)


if __name__ == "__main__":
    unittest.main()
