import unittest

from oneround import errors

FIELDS = {
    "place": (
        "BadYard", "BadText", "BadEnd", "BadSetting", "BadTurn", "BadLead", "BadDraft", "BadSplit",
        "BadNames", "BadTwins", "BadWorths", "BadPaper", "BadTable", "BadDeed", "OutOfPlace",
    ),
    "way": ("Barred",),
    "split": ("NeverOne",),
    "many": ("ManyRounds", "TooMany"),
}

KINDS = [(name, field) for field, names in FIELDS.items() for name in names]


class RefusalsTest(unittest.TestCase):
    def test_round_error_is_a_value_error(self):
        self.assertEqual(errors.RoundError.__bases__, (ValueError,))

    def test_each_kind_stands_straight_under_round_error(self):
        for name, _ in KINDS:
            with self.subTest(name):
                self.assertEqual(getattr(errors, name).__bases__, (errors.RoundError,))

    def test_each_kind_has_its_field_by_place_and_by_name(self):
        for name, field in KINDS:
            kind = getattr(errors, name)
            for worth in ((), (3,), (3, 1), -1, 41):
                with self.subTest(name=name, worth=worth):
                    self.assertEqual(vars(kind(worth)), {field: worth})
                    self.assertEqual(vars(kind(**{field: worth})), {field: worth})

    def test_no_kind_is_caught_as_another_one(self):
        for name, _ in KINDS:
            kin = [other for other, _ in KINDS if issubclass(getattr(errors, name), getattr(errors, other))]
            self.assertEqual(kin, [name])

    def test_nothing_is_a_lookup_error_made_of_a_text(self):
        self.assertEqual(errors.Nothing.__bases__, (LookupError,))
        self.assertFalse(issubclass(errors.Nothing, errors.RoundError))
        self.assertEqual(str(errors.Nothing("no deed stands")), "no deed stands")

    def test_all_are_defined_in_their_file(self):
        for name in [name for name, _ in KINDS] + ["RoundError", "Nothing"]:
            self.assertEqual(getattr(errors, name).__module__, "oneround.errors")


if __name__ == "__main__":
    unittest.main()
