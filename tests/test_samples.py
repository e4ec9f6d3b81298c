import unittest

from lastshort.loops import Loop
from lastshort.samples import sample_loop, sample_source
from lastshort.sources import Source


class SamplesTest(unittest.TestCase):
    def test_the_loop(self):
        self.assertIs(type(sample_loop()), Loop)
        self.assertEqual(sample_loop(), Loop("ask empty:stop hand"))
        self.assertEqual(sample_loop().text, "ask empty:stop hand")

    def test_the_source(self):
        self.assertIs(type(sample_source()), Source)
        self.assertEqual(sample_source(), Source("short", "prompt", "empty"))
        self.assertEqual(str(sample_source()), "short prompt empty")

    def test_each_time_the_same(self):
        self.assertEqual(sample_loop(), sample_loop())
        self.assertEqual(sample_source(), sample_source())


if __name__ == "__main__":
    unittest.main()
