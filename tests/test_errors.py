"""Point 98: the errors."""

import unittest

from stampsheets import errors

FIELDS = {
    "BadName": ("index",), "BadStamp": ("index",), "NameTaken": ("name",), "SizesDiffer": ("one", "two"),
    "UnknownName": ("name",), "BadStep": ("index",), "StocksDiffer": (), "BadAtom": ("atom",),
    "NoOrder": ("row",), "BadPrices": (), "BadChances": (), "BadWish": ("index",), "BadShape": ("index",),
    "BadSheet": ("sheet",), "DeskFull": (), "NothingToUndo": (), "BadCount": ("count",),
    "CannotMake": ("cells",), "Mismatch": ("cell",), "BadDeed": ("deed",), "BadNote": ("line",),
    "BadClaimText": (),
}


class ErrorsTest(unittest.TestCase):
    def test_base(self):
        self.assertEqual(errors.StampError.__bases__, (ValueError,))

    def test_each_error_derives_directly_and_keeps_its_fields(self):
        for name, fields in FIELDS.items():
            kind = getattr(errors, name)
            self.assertEqual(kind.__bases__, (errors.StampError,), name)
            values = [f"value{k}" for k in range(len(fields))]
            error = kind(*values)
            self.assertEqual([getattr(error, field) for field in fields], values, name)
            self.assertIsInstance(str(error), str)
            with self.assertRaises(errors.StampError):
                raise error

    def test_lists_are_kept_as_tuples(self):
        self.assertEqual(errors.BadAtom(["used", ["x"], 1]).atom, ("used", ("x",), 1))
        self.assertEqual(errors.NoOrder(["x", "y"]).row, ("x", "y"))
        self.assertEqual(errors.CannotMake([0, 2]).cells, (0, 2))
        self.assertEqual(errors.BadDeed(["try", [["press", "x"]]]).deed, ("try", (("press", "x"),)))
