"""The errors: their fields, and what they are below."""

from borderwords import errors
from tests.support import Case

OF_A_PART = ("BadRegion BadWorld BadSaying BadBook BadMap BadWord BadSize BadLimit BadFilm BadNumber BadPaper BadDesk "
             "Misfit").split()
FIELDS = {name: ["part"] for name in OF_A_PART}
FIELDS.update({
    "Missing": ["value"], "NoLand": ["value"], "NoSaying": ["value"], "NoName": ["value"], "Twice": ["value"],
    "Impossible": ["paper"], "TooMany": ["what", "most"], "Nothing": [], "BadText": ["line", "item"],
    "BadLine": ["line", "error"]})


class Errors(Case):
    """Each error is made with its fields, and keeps them."""

    def test_all_are_there(self):
        own = {name for name, value in vars(errors).items() if isinstance(value, type)}
        self.assertEqual(own, set(FIELDS) | {"WordsError"})
        for name in own:
            self.assertEqual(vars(errors)[name].__module__, "borderwords.errors")

    def test_what_they_are_below(self):
        self.assertEqual(errors.WordsError.__bases__, (ValueError,))
        for name in FIELDS:
            below = errors.Missing if name in ("NoLand", "NoSaying", "NoName") else errors.WordsError
            self.assertEqual(vars(errors)[name].__bases__, (below,), name)

    def test_fields(self):
        for name, fields in FIELDS.items():
            for value in ("a", None, 10 ** 5000, [1, [2]], {"a": []}, object()):
                values = [value, [value]][:len(fields)]
                by_place = vars(errors)[name](*values)
                by_name = vars(errors)[name](**dict(zip(fields, values)))
                for error in (by_place, by_name):
                    for field, given in zip(fields, values):
                        self.assertIs(getattr(error, field), given, name)

    def test_fields_are_needed(self):
        for name, fields in FIELDS.items():
            if fields:
                with self.assertRaises(TypeError):
                    vars(errors)[name]()
                with self.assertRaises(TypeError):
                    vars(errors)[name](*fields, "more")

    def test_they_are_caught_as_their_base(self):
        for wanted in (errors.WordsError, errors.Missing, ValueError):
            with self.assertRaises(wanted):
                raise errors.NoLand("a")
