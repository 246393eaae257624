import contextlib
import io
import os
import re
import unittest

README = os.path.join(os.path.dirname(os.path.dirname(os.path.abspath(__file__))), "README.md")


class ReadmeTest(unittest.TestCase):
    def test_the_example_prints_what_it_says(self):
        with open(README, encoding="utf-8") as file:
            code = re.search(r"```python\n([\s\S]*?)```", file.read()).group(1)
        told = re.findall(r"print\(.*\) +# (.*)", code)
        printed = io.StringIO()
        with contextlib.redirect_stdout(printed):
            exec(code, {})
        self.assertEqual(printed.getvalue().splitlines(), told)
        self.assertEqual(len(told), 2)


if __name__ == "__main__":
    unittest.main()
