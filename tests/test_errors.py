import unittest

from endonce import errors

# Of each class: its base, the names of its values, values for them, and what the attributes then are.
CLASSES = (
    ("BadLine", ValueError, ("number",), (3,), (3,)),
    ("BadEvent", ValueError, ("number", "word"), (0, "tag"), (0, "tag")),
    ("BadPair", ValueError, ("at",), (2,), (2,)),
    ("NotClosed", ValueError, (), (), ()),
    ("NotBare", ValueError, ("many",), (4,), (4,)),
    ("NoSums", ValueError, ("word", "what"), ("letters", "p"), ("letters", "p")),
    ("NoSums", ValueError, ("word", "what"), ("reap", 0), ("reap", 0)),
    ("NoSums", ValueError, ("word", "what"), ("reap", [1, ["a"]]), ("reap", (1, ("a",)))),
    ("NotPossible", ValueError, ("reason",), (("numbers", "letters", "p"),), (("numbers", "letters", "p"),)),
    ("NotPossible", ValueError, ("reason",), (["ring", [[["end", "r"], "chain"]]],),
     (("ring", ((("end", "r"), "chain"),)),)),
    ("NotPossible", ValueError, ("reason",), (("ring", [(["end", "r"], "chain")]),),
     (("ring", ((("end", "r"), "chain"),)),)),
    ("NotOrder", ValueError, ("pair",), (("x", "y"),), (("x", "y"),)),
    ("NotOrder", ValueError, ("pair",), (["x", "y"],), (("x", "y"),)),
    ("NoLot", ValueError, ("four",), (("a", "b", "c", "d"),), (("a", "b", "c", "d"),)),
    ("NoLot", ValueError, ("four",), (["a", "b", "c", "d"],), (("a", "b", "c", "d"),)),
    ("NoStep", LookupError, ("which",), (-1,), (-1,)),
    ("NoStep", LookupError, ("which",), (("end", "a"),), (("end", "a"),)),
    ("NoStep", LookupError, ("which",), (["fire", "a", 0],), (("fire", "a", 0),)),
    ("NoTag", LookupError, ("tag",), ("a",), ("a",)),
    ("NoOperation", LookupError, ("many",), (-2,), (-2,)),
    ("NotQuiet", RuntimeError, ("steps",), ([("begin", "a"), ("post", "a", 0)],),
     ([("begin", "a"), ("post", "a", 0)],)),
    ("NotQuiet", RuntimeError, ("steps",), ((["begin", "a"], ["post", "a", 0]),),
     ([("begin", "a"), ("post", "a", 0)],)),
    ("NotQuiet", RuntimeError, ("steps",), ([],), ([],)),
    ("TooMany", OverflowError, ("many",), (300,), (300,)),
)


def told(error, names):
    return repr([getattr(error, name) for name in names])


class ErrorsTest(unittest.TestCase):
    def test_each_class_stands_directly_under_its_base(self):
        for name, base, *_ in CLASSES:
            with self.subTest(name=name):
                made = getattr(errors, name)
                self.assertEqual(made.__bases__, (base,))
                self.assertEqual(made.__module__, "endonce.errors")

    def test_all_classes_of_the_interface_are_here_and_no_others(self):
        there = {name for name, thing in vars(errors).items() if isinstance(thing, type)}
        self.assertEqual(there, {row[0] for row in CLASSES})

    def test_values_by_position(self):
        for name, _, names, values, stored in CLASSES:
            with self.subTest(name=name, values=values):
                self.assertEqual(told(getattr(errors, name)(*values), names), repr(list(stored)))

    def test_values_by_name(self):
        for name, _, names, values, stored in CLASSES:
            with self.subTest(name=name, values=values):
                error = getattr(errors, name)(**dict(zip(names, values)))
                self.assertEqual(told(error, names), repr(list(stored)))

    def test_each_one_is_raised_and_caught_by_its_base(self):
        for name, base, names, values, stored in CLASSES:
            with self.subTest(name=name), self.assertRaises(base) as caught:
                raise getattr(errors, name)(*values)
            self.assertEqual(told(caught.exception, names), repr(list(stored)))

    def test_the_steps_of_not_quiet_are_a_list_of_their_own(self):
        steps = [["begin", "a"]]
        error = errors.NotQuiet(steps)
        steps[0][1] = "b"
        steps.append(("begin", "c"))
        self.assertEqual(error.steps, [("begin", "a")])
        error.steps.append(("end", "d"))
        self.assertEqual(steps, [["begin", "b"], ("begin", "c")])

    def test_the_arguments_are_not_changed(self):
        reason = ["ring", [[["end", "r"], "chain"]]]
        errors.NotPossible(reason)
        self.assertEqual(reason, ["ring", [[["end", "r"], "chain"]]])


if __name__ == "__main__":
    unittest.main()
