import unittest

from tollround import most
from tests.samples import Checks


class MostTest(Checks, unittest.TestCase):
    def test_the_numbers_of_the_document(self):
        self.assert_exact(most.MOST, 300)
        self.assert_exact(most.MOST_STEPS, 1000)


if __name__ == "__main__":
    unittest.main()
