"""The README's examples tell what they say that they tell."""

import pathlib
import re
import unittest

README = pathlib.Path(__file__).resolve().parent.parent / "README.md"
# A line that asks for something and says behind it what is told; one that gives a name to something is none.
ASKED = re.compile(r"^( *)((?![^(]*=).*\S) +# (.*)$")


class Readme(unittest.TestCase):

    def test_examples(self):
        seen = []

        def look(told, wanted):
            seen.append(told)
            self.assertEqual(told, wanted)

        names = {"look": look}
        for block in re.findall(r"```python\n(.*?)```", README.read_text(), re.DOTALL):
            lines = [ASKED.sub(r"\1look((\2), (\3))", line) for line in block.split("\n")]
            exec("\n".join(lines), names)
        self.assertGreater(len(seen), 12)
