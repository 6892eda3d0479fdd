"""The package keeps the rules of its language; and the interface stands where the document lists it."""

import ast
import os
import unittest
import warnings

from tests.language import complaints

TOP = os.path.dirname(os.path.dirname(os.path.abspath(__file__)))
PACKAGE = os.path.join(TOP, "hourrings")

INTERFACE = {
    "books": """is_name(value) is_line(kind,value) are_lines(kind,value) is_book(value) are_numbers(kind,names,value)
        unknowns(book) keeps(kind,line,numbers) unkept(book,numbers) is_keeping(book,value) moved(kind,numbers,ahead)
        plain_line(kind,one,other,ahead,by)""",
    "texts": """text_of_line(kind,line) line_of_text(kind,text) text_of_book(book) book_of_text(text) wrong_at(text)""",
    "numbers": """added(kind,one,other) less(kind,one,other) product(kind,one,other) quotient(kind,one,by)
        rest(kind,one,by) is_multiple(kind,one,by) divisor(kind,one,other) multiple(kind,one,other)
        divisor_paper(kind,one,other) is_divisor_paper(kind,one,other,value)""",
    "rests": """agree(kind,one,other) met_rest(kind,one,other) met_rests(kind,rests) first_apart(kind,rests)
        how_many_keep(kind,rests,size) kept_numbered(kind,rests,number) turned_line(kind,line)
        joined_line(kind,one,other) met_line(kind,one,other) is_weaker(kind,one,other)""",
    "rings": """is_way(book,value) is_ring(book,value) told_ring(book,ring) ring_sum(book,ring)
        ring_divisor(book,ring) is_broken(book,ring) ring_off(book,ring) way_line(book,way) can_be_kept(book)
        all_rings(book) broken_rings(book)""",
    "shortest": """shortest_broken(book) is_shortest_broken(book,value) cores(book) is_core(book,value)
        ring_of(book,lot) quiet_lines(book) saving_lines(book) mended(book,ring,number)""",
    "closed": """closed(book) closed_line(book,one,other) closed_with(book,line) follows(book,line)
        news_of(book,line) two_rows(book,line) are_two_rows(book,line,value)""",
    "follows": """are_equal(one,other) parting_line(one,other) needless(book) least_books(book) shares(book,order)
        weight(book) worth(book,line) worths(book,order) unlike_numbers(book,lines)
        are_unlike_numbers(book,lines,value)""",
    "papers": """is_paper(book,value) told_lines(book,paper) paper_for(book,line) is_paper_for(book,line,value)
        odds_paper(book) is_odds_paper(book,value) ring_of_odds(book,value) never_paper(book,line)
        is_never_paper(book,line,value) used_lines(book,paper) trimmed(book,paper) put_through(book,papers,paper)""",
    "plain": """plain_odds(book) barring_way(book,line)""",
    "given": """first_numbers(book) goes_on(book,numbers) first_denied(book,numbers) first_with(book,numbers)
        rest_given(book,numbers,name)""",
    "rows": """least_period(book) keeps_row(book,period,value) how_many_rows(book,period)
        choices_left(book,period,names) row_numbered(book,period,number) number_of_row(book,period,row)
        all_rows(book,period) how_many_with(book,period,numbers) next_row(book,period,row)""",
    "engine": """told_all(kind,lines) same_answers(one,other) new_lines(one,other) is_log(kind,value) replayed(kind,log)
        plain_log(kind,log)""",
    "forgetting": """told_of(book,names) forgotten(book,names) shared_unknowns(one,other) news(one,other)
        is_silent(one,other)""",
    "middles": """is_middle(one,other,value) strongest_middle(one,other) least_middle(one,other)
        is_least_middle(one,other,value) ring_middle(one,other,ring) carried(books) can_be_kept_along(books)
        is_carrying(books,value)""",
    "choices": """are_choices(kind,value) picked(book,choices,picks) first_picks(book,choices)
        how_many_picks(book,choices) all_picks(book,choices) barred_lots(book,choices) is_barred(book,choices,value)
        not_line(kind,line) unlike_by(kind,names,by) follows_all(book,choices,line)
        common_line(book,choices,one,other)""",
    "trees": """is_tree(book,choices,value) tree_of_no(book,choices) leaves(book,choices,tree)
        needed_choices(book,choices,tree)""",
    "parts": """is_giving(book,value) is_part(book,value) is_least_giving(book,value) is_greatest_part(book,value)
        least_givings(book) greatest_parts(book) crossing(lots) fewest_giving(book) how_many_fewest(book)
        staying(book,number) never_given(book) part_by(book,order) order_for(book,part)
        lightest_giving(book,weights) is_lightest(book,weights,value)""",
    "strikes": """striking(things,hour) together(things) apart(things) next_together(things,hour)
        how_often(things,low,high) how_many_strike(things,low,high) greatest_lots(things)
        strikes_from(things,hour,many) shifts(things,number) fewest_put_off(things)""",
    "bells": """can_strike(book,bells) hour_line(book,bells,name) must_strike(book,bells) may_miss(book,bells)
        missing(book,bells)""",
    "levels": """divisors_of(book) level(book,d) joined_at(book,d) hung(book,d) is_hung(book,d,value)
        first_bad_level(book) level_ring(book,d) shortest_by_levels(book) levels_joining(book,one,other)
        told_by_levels(book,one,other)""",
    "torn": """good_part(text) joined_books(one,other)""",
    "live": """is_deed(live,value)""",
}
METHODS = {
    ("engine", "Engine"): """__init__(self,kind) kind(self) tell(self,line) push(self) pop(self) lines(self) marks(self)
        strongest(self,one,other) judged(self,line) parts(self) log(self) copy(self) __eq__(self,other)""",
    ("live", "LiveBook"): """__init__(self,kind) kind(self) layers(self) book(self) told(self) do(self,deed) undo(self)
        redo(self) log(self) copy(self) can(self) ring(self) first(self) lets(self,line) __eq__(self,other)""",
}
# What each rule refuses, each by one file.
WRONG = {
    "L2": ["import os\n", "from os import path\n", "from hourrings.books import *\n", "from .books import is_name\n",
           "A = 1\nfrom hourrings.books import is_name\n"],
    "L3": ["print(3)\n", "A = len('a')\n", "A, B = 1, 2\n", "A = [k for k in 'ab']\n"],
    "L4": ["@staticmethod\ndef f():\n    return 1\n"],
    "L5": ["class A:\n    def __hash__(self):\n        return 1\n"],
    "L6": ["def f():\n    global A\n", "def f(a):\n    a + 1\n"],
    "L7": ["def f(a):\n    return a / 2\n", "A = 1.5\n", "def f(a):\n    return any(k for k in a)\n"],
    "L8": ["def f(a):\n    return hash(a)\n", "def f(a):\n    return chr(a)\n"],
    "L10": ["def f():\n" + "    pass\n" * 40, "# " + "a" * 119 + "\n", "A = 1\n" * 400, "def f():\n\treturn 1\n"],
    "L12": ["def f():\n    __a = 1\n    return __a\n", "def f(_):\n    return _\n"],
    "L14": ["# \u00e9\n"],
    "L15": ["A = 1\nA = 2\n", "A = ([1],)\n", "from math import gcd\n\n\ndef f(gcd):\n    return gcd\n",
            "def min(a):\n    return a\n"],
    "L17": ["def f(input):\n    return input\n", "def f(a):\n    return type(a)\n"],
    "L19": ["def f(a):\n    raise a\n", "def f():\n    try:\n        pass\n    except TypeError:\n        pass\n"],
    "L20": ["def f(a, b):\n    return a is b\n"],
    "L22": ["def f(a):\n    return int(a, base=2)\n"],
    "L23": ["def f(a):\n    for k in a:\n        a.append(k)\n", "def f(a):\n    return enumerate(a)\n"],
    "L24": ["def f(a):\n    return set(a)\n", "def f(a):\n    for k in {1, 2}:\n        a.append(k)\n"],
    "L25": ["def f(a):\n    return a.encode_it or a.hex or a.format_map(1)\n", "def f(a):\n    a.sort()\n"],
    "L27": ["A = 'a%'\n", "def f(a, b):\n    return a ** b\n", "A = '\\r'\n", "A = '__odd__'\n"],
}


def read(name):
    with open(os.path.join(PACKAGE, name), encoding="utf-8") as file:
        return file.read()


def package_files():
    return sorted(name for name in os.listdir(PACKAGE) if name != "__pycache__")


class Language(unittest.TestCase):
    def test_files(self):
        for name in package_files():
            self.assertTrue(name.endswith(".py") and name.islower(), name)
            self.assertNotIn(name, ["math.py", "heapq.py", "itertools.py", "test.py", "site.py"])
        self.assertIn("__init__.py", package_files())

    def test_rules(self):
        for name in package_files():
            self.assertEqual(complaints(read(name)), [], name)

    def test_no_warnings(self):
        for name in package_files():
            with warnings.catch_warnings():
                warnings.simplefilter("error")
                compile(read(name), name, "exec")

    def test_the_rules_are_checked(self):
        for rule, texts in WRONG.items():
            for text in texts:
                self.assertIn(rule, [number for number, _ in complaints(text)], text)

    def test_imports_name_the_defining_file(self):
        defined, imported = {}, {}
        for name in package_files():
            tree = ast.parse(read(name))
            module = name[:-3]
            defined[module] = [node.name for node in tree.body if isinstance(node, (ast.FunctionDef, ast.ClassDef))]
            defined[module] += [node.targets[0].id for node in tree.body if isinstance(node, ast.Assign)]
            imported[module] = [(node.module.partition(".")[2], alias.name) for node in tree.body
                                if isinstance(node, ast.ImportFrom) and node.module.startswith("hourrings.")
                                for alias in node.names]
        for module, pairs in imported.items():
            for other, name in pairs:
                self.assertIn(name, defined[other], (module, other))
        self.assertEqual(defined["__init__"], [])
        # No two files import from each other, not through others either.
        left = {module: {other for other, _ in pairs} for module, pairs in imported.items()}
        while left:
            free = [module for module, others in left.items() if not others & set(left)]
            self.assertNotEqual(free, [], left)
            left = {module: others for module, others in left.items() if module not in free}


class Interface(unittest.TestCase):
    def check(self, told, tree, where):
        found = {node.name: [arg.arg for arg in node.args.args] for node in tree.body
                 if isinstance(node, ast.FunctionDef) and not node.args.defaults}
        for item in told.split():
            name, _, names = item.rstrip(")").partition("(")
            self.assertEqual(found.get(name), names.split(","), (where, name))

    def test_functions(self):
        for module, told in INTERFACE.items():
            self.check(told, ast.parse(read(module + ".py")), module)

    def test_methods(self):
        for (module, name), told in METHODS.items():
            tree = ast.parse(read(module + ".py"))
            classes = {node.name: node for node in tree.body if isinstance(node, ast.ClassDef)}
            self.check(told, classes[name], name)


if __name__ == "__main__":
    unittest.main()
