"""burstshop.errors: the classes of the interface, promise [4]."""

import unittest

from burstshop import errors
from burstshop.errors import ShopError
from tests.helper import Case

# The classes of the interface with their attributes, in their order.
TOLD = {
    "InvalidCube": ["at"], "InvalidPoint": ["at"], "InvalidTable": ["why"], "InvalidChange": ["at"],
    "InvalidCover": ["at"], "InvalidOrder": ["at"], "InvalidWord": [], "InvalidTree": ["path"],
    "InvalidPlay": ["path"], "InvalidRule": ["which", "path"], "InvalidMachine": ["part", "at"],
    "InvalidStanding": [], "InvalidName": ["name"], "InvalidNumber": [], "InvalidCoding": ["at"],
    "InvalidTrees": ["at"], "InvalidParts": ["at"], "InvalidBurst": ["at"], "InvalidText": ["at"],
    "BadProgram": ["path"], "UnknownName": ["name"], "Unsound": ["why", "at"], "Unlike": [], "Choke": ["at"],
    "Clash": ["arc", "function"], "TwoSenders": ["name"], "NotAMove": [], "LimitExceeded": ["limit"],
    "NothingLeft": ["word"],
}


class Errors(Case):
    def test_the_base(self):
        self.assertEqual(ShopError.__bases__, (Exception,))
        self.stands_in(errors, ["ShopError"])

    def test_all_29_stand_directly_below_the_base(self):
        self.assertEqual(len(TOLD), 29)
        for name in TOLD:
            self.assertEqual(getattr(errors, name).__bases__, (ShopError,), name)
        self.stands_in(errors, TOLD)

    def test_attributes_by_position(self):
        for name, attributes in TOLD.items():
            values = [(), "word", -1, 7, None][:len(attributes)]
            error = getattr(errors, name)(*values)
            self.assertEqual([getattr(error, attribute) for attribute in attributes], values, name)

    def test_attributes_by_name(self):
        for name, attributes in TOLD.items():
            values = {attribute: (attribute, k) for k, attribute in enumerate(attributes)}
            error = getattr(errors, name)(**values)
            self.assertEqual({attribute: getattr(error, attribute) for attribute in attributes}, values, name)

    def test_attributes_of_one_object_are_not_those_of_another(self):
        for name, attributes in TOLD.items():
            one = getattr(errors, name)(*range(len(attributes)))
            two = getattr(errors, name)(*range(10, 10 + len(attributes)))
            for k, attribute in enumerate(attributes):
                self.assertEqual([getattr(one, attribute), getattr(two, attribute)], [k, 10 + k], name)

    def test_each_is_raised_and_caught(self):
        for name, attributes in TOLD.items():
            error = getattr(errors, name)
            with self.assertRaises(ShopError) as caught:
                raise error(*[3 for _ in attributes])
            self.assertIs(type(caught.exception), error)


if __name__ == "__main__":
    unittest.main()
