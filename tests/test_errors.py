import unittest

from earlysift.errors import Late, NoPart, NoSign, NoText, SiftError, Taken

REFUSALS = [NoSign, NoText, NoPart, Taken, Late]


class Refusals(unittest.TestCase):
    def test_each_is_a_sift_error_and_a_value_error(self):
        self.assertTrue(issubclass(SiftError, ValueError))
        for refusal in REFUSALS:
            self.assertTrue(issubclass(refusal, SiftError), refusal)
            self.assertIsNot(refusal, SiftError)

    def test_none_stands_beneath_another(self):
        for one in REFUSALS:
            for other in REFUSALS:
                if one is not other:
                    self.assertFalse(issubclass(one, other), (one, other))

    def test_the_names_are_those_of_the_interface(self):
        self.assertEqual([one.__name__ for one in REFUSALS], ["NoSign", "NoText", "NoPart", "Taken", "Late"])
        for one in [SiftError] + REFUSALS:
            self.assertEqual(one.__module__, "earlysift.errors")

    def test_those_made_with_a_number_keep_it_as_at(self):
        for refusal in [NoSign, NoText]:
            for number in [0, 1, 7, 400]:
                self.assertEqual(refusal(number).at, number)
                self.assertIs(type(refusal(number).at), int)

    def test_each_object_has_a_number_of_its_own(self):
        first, second = NoSign(3), NoSign(5)
        self.assertEqual((first.at, second.at), (3, 5))
        first, second = NoText(3), NoText(5)
        self.assertEqual((first.at, second.at), (3, 5))

    def test_each_can_be_raised_and_taken_by_its_own_name(self):
        for made in [NoSign(2), NoText(2), NoPart(), Taken(), Late()]:
            for kind in [type(made), SiftError, ValueError]:
                with self.assertRaises(kind):
                    raise made


if __name__ == "__main__":
    unittest.main()
