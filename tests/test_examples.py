"""The examples of the document, word for word, and that the copies here are just those."""

import pathlib

from tests.support import EXAMPLES, SECTIONS, Case, examples, namespace

DOCUMENT = pathlib.Path(__file__).resolve().parent.parent.parent / "shared" / "DOC.md"


class Examples(Case):
    """Each example gives what stands below it."""

    def test_examples(self):
        names = namespace()
        for section, line, wanted in examples():
            with self.subTest(section=section, line=line):
                if wanted is None:
                    exec(line, names)
                elif wanted.startswith("raises "):
                    self.raises_as_told(wanted[7:], line, names)
                else:
                    self.assertEqual(repr(eval(line, names)), wanted)

    def raises_as_told(self, told, line, names):
        if "(" in told:
            self.refused(eval(told, names), eval, line, names)
        else:
            with self.assertRaises(names[told]) as found:
                eval(line, names)
            self.assertIs(type(found.exception), names[told])

    def test_copies(self):
        if not DOCUMENT.exists():
            self.skipTest("the document is not beside this checkout")
        text = DOCUMENT.read_text()
        self.assertGreater(len(list(EXAMPLES.iterdir())), 0)
        for section in SECTIONS:
            path = EXAMPLES / (section + ".txt")
            told = text.split(f"## borderwords/{section}.py\n")[1].split("\n## ")[0]
            blocks = told.split("```\n")[1::2]
            self.assertEqual(path.read_text() if path.exists() else "", "".join(blocks), section)
