import contextlib
import io
import os
import re
import unittest

README = os.path.join(os.path.dirname(os.path.dirname(os.path.abspath(__file__))), "README.md")


class ReadmeTest(unittest.TestCase):
    def test_the_examples_print_what_they_say(self):
        with open(README, encoding="utf-8") as file:
            examples = re.findall(r"```python\n([\s\S]*?)```", file.read())
        self.assertEqual(len(examples), 5)
        for code in examples:
            told = re.findall(r"print\(.*\) +# (.*)", code)
            printed = io.StringIO()
            with contextlib.redirect_stdout(printed):
                exec(code, {})
            self.assertEqual(printed.getvalue().splitlines(), told)
            self.assertGreaterEqual(len(told), 2)


if __name__ == "__main__":
    unittest.main()
