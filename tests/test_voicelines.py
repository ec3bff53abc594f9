"""[13], [19] and [20]: the judge of voices, and voices and quotients as lines."""

import unittest

from silentbeats.voicechecker import lets_voice
from silentbeats.voicereadings import read_quotients, read_voice
from silentbeats.voicetexts import quotients_line, voice_line
from tests.base import NO_VOICES, BeatTest, a_chance, some_voice

SIXTY = "9" * 60
MORE = "1" + "0" * 60


class Checker(BeatTest):
    def test_sizes(self):
        self.tells(1, lets_voice, (0,))
        self.tells(3, lets_voice, (1, -2, 10 ** 60 - 1))
        self.tells(500, lets_voice, (7,) * 500)

    def test_shape(self):
        for thing in (True, False, None, 0, 1, "", "1 2", (), [], [1, 2], ["a"]):
            self.unfit("shape", -1, lets_voice, thing)

    def test_weight(self):
        for thing in (True, False, None, "", "1", (), (1,), [], [1]):
            self.unfit("weight", 0, lets_voice, (thing,))
            self.unfit("weight", 0, lets_voice, (thing, 1, thing))
            self.unfit("weight", 2, lets_voice, (0, -1, thing, 5, thing))


class Writing(BeatTest):
    def test_voice_line(self):
        self.tells("voice 1 0 -2", voice_line, (1, 0, -2))
        self.tells("voice 0", voice_line, (0,))
        self.tells(f"voice {MORE} -{SIXTY}", voice_line, (10 ** 60, 1 - 10 ** 60))
        for thing in NO_VOICES:
            self.refused("voice", voice_line, thing)

    def test_quotients_line(self):
        self.tells("quotients 1/2 -3", quotients_line, ((1, 2), (-3, 1)))
        self.tells("quotients 0", quotients_line, ((0, 1),))
        self.tells(f"quotients -1/{MORE}", quotients_line, ((-1, 10 ** 60),))
        for thing in (True, None, 0, "", "1/2", (), [], [(1, 2)], (1, 2), (1,), ((2, 4),), ((1, 2), (3,)),
                      ((True, 2),), ((1, 2), 1), ((1, 2), (1, 0)), ((1, -2),), (None,), ([1, 2],)):
            self.refused("quotients", quotients_line, thing)


class ReadingVoices(BeatTest):
    def test_what_is_written_is_read(self):
        chance = a_chance(200)
        for size in range(1, 30):
            voice = some_voice(chance, size, -1000, 1000)
            self.tells(voice, read_voice, voice_line(voice))
        self.tells((0, 7), read_voice, "voice 0 7")

    def test_digits(self):
        self.tells((10 ** 60 - 1, 1 - 10 ** 60), read_voice, f"voice {SIXTY} -{SIXTY}")
        self.unread(2, read_voice, f"voice 1 {MORE}")
        self.unread(1, read_voice, f"voice -{MORE} 1")
        self.unread(1, read_voice, "voice " + "0" * 61)

    def test_integers_that_cannot_stand(self):
        for word in ("00", "01", "-0", "-01", "+1", "--1", "-", "1-", "1.0", "1_0", "a", "0x1", "1/1", "1/2", "(1)",
                     "True", "None", "1\n", "\n1", "\n", "1\n2", "1,2", "e1"):
            self.unread(1, read_voice, f"voice {word}")
            self.unread(3, read_voice, f"voice 4 -5 {word} 6 {word}")

    def test_first_word(self):
        for text in ("", "voices 1", "Voice 1", "voic", "quotients 1", " voice 1", " ", "\nvoice 1", "voice\n1", "1",
                     "voice\n 1", "\n", "voice1 2"):
            self.unread(0, read_voice, text)

    def test_missing_and_empty_words(self):
        self.unread(1, read_voice, "voice")
        self.unread(1, read_voice, "voice ")
        self.unread(1, read_voice, "voice  1")
        self.unread(2, read_voice, "voice 1 ")
        self.unread(2, read_voice, "voice 1  2")
        self.unread(2, read_voice, "voice 1 2\n")
        self.unread(1, read_voice, "voice x ")

    def test_other_values(self):
        for thing in (True, None, 0, 7, (), ("voice 1",), [], ["voice 1"], (1, 2)):
            self.refused("text", read_voice, thing)
            self.refused("text", read_quotients, thing)


class ReadingQuotients(BeatTest):
    def test_what_is_written_is_read(self):
        quotients = ((1, 2), (-3, 1), (0, 1), (-7, 9), (10 ** 60 - 1, 10 ** 59), (12, 1))
        self.tells(quotients, read_quotients, quotients_line(quotients))
        for quotient in quotients:
            self.tells((quotient,), read_quotients, quotients_line((quotient,)))
        self.tells(((-1, 3), (0, 1)), read_quotients, "quotients -1/3 0")

    def test_digits(self):
        self.tells(((10 ** 60 - 1, 10 ** 60 - 2),), read_quotients, f"quotients {SIXTY}/{SIXTY[:-1]}8")
        self.unread(1, read_quotients, f"quotients {MORE}")
        self.unread(1, read_quotients, f"quotients 1/{MORE}")
        self.unread(2, read_quotients, f"quotients 1 {MORE}1/3")

    def test_quotients_that_cannot_stand(self):
        for word in ("3/1", "2/4", "0/2", "0/1", "1/0", "0/0", "1/-2", "-1/-2", "1/", "/2", "/", "1/2/3", "01/2", "1/02",
                     "-0/3", "-0", "1/+2", "+1/2", "", "a", "1/a", "1//2", "1/2\n", "1\n/2", "1/\n2", "-/2",
                     "--1/2", "1\n"):
            self.unread(1, read_quotients, f"quotients {word}")
            self.unread(2, read_quotients, f"quotients 1/2 {word}")

    def test_words(self):
        for text in ("", "quotient 1", "Quotients 1", "voice 1", " quotients 1", "quotients\n1", "quotients\n"):
            self.unread(0, read_quotients, text)
        self.unread(1, read_quotients, "quotients")
        self.unread(1, read_quotients, "quotients ")
        self.unread(2, read_quotients, "quotients 1/2 2/4")
        self.unread(2, read_quotients, "quotients 1/2  3")
        self.unread(3, read_quotients, "quotients 1/2 3 ")


if __name__ == "__main__":
    unittest.main()
