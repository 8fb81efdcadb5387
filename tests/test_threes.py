"""The table of the words of three lands, held against what worlds show."""

import itertools

from borderwords.threes import BY_THIRD, is_three
from tests.support import EIGHT, Case, is_possible_by_definition


class Threes(Case):
    """BY_THIRD and is_three."""

    def test_each_three_words(self):
        self.assertEqual(set(BY_THIRD), set(itertools.product(EIGHT, repeat=2)))
        for word, its in itertools.product(EIGHT, repeat=2):
            wanted = tuple(third for third in EIGHT
                           if is_possible_by_definition("xyz", [f"x {word} y", f"y {its} z", f"x {third} z"]))
            self.assertEqual(BY_THIRD[word, its], wanted)
            self.assertEqual([third for third in EIGHT if is_three(word, its, third)], list(wanted))
