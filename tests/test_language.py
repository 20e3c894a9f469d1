"""The interface stands where the document lists it, and the package keeps to its subset of Python."""

import ast
import builtins
import unittest
from pathlib import Path

PACKAGE = Path(__file__).resolve().parent.parent / "mitrehouse"

INTERFACE = {
    "errors": ["is_name(value)"],
    "ratios": ["ratio(above, below)", "is_ratio(value)", "plus(one, other)", "minus(one, other)", "times(one, other)",
               "over(one, other)", "opposite(one)", "total(ratios)", "sign(one)", "is_less(one, other)",
               "ascending(ratios)", "least(one, other)", "greatest(one, other)", "root(one)", "zeros(a, b, c)",
               "write_ratio(one)", "read_ratio(word)"],
    "linear": ["make_row(terms, constant)", "worth(row, values)", "fulfils(rows, values)", "made(rows, factors)",
               "solve(rows, unknowns)", "reduced_rows(rows, unknowns)", "frame(rows, unknowns)",
               "accepts_frame(rows, frame)", "follows(rows, row)", "is_clash(row)", "needless(rows)",
               "least_conflicts(rows)"],
    "lengths": ["is_length(value)", "length_worth(length, numbers)", "numbers_in(length)", "growth(length, name)"],
    "sketches": ["is_sketch(value)", "numbers_of(sketch)", "sketch_rows(sketch, numbers)", "owners(sketch)",
                 "unknowns_of(sketch)", "is_shape(sketch, numbers, shape)"],
    "settling": ["settle(sketch, numbers)", "paper_of(sketch, numbers)", "accepts(sketch, numbers, told, paper)",
                 "depends(sketch, numbers, name)", "needless_ones(sketch, numbers)", "conflicts(sketch, numbers)",
                 "held_points(sketch, numbers)"],
    "outlines": ["edges_of(rings)", "fault(places, rings)", "region(places, rings)", "side_edges(places, rings)",
                 "area(places, rings)", "is_inside(places, rings, place)"],
    "bodies": ["thin(xs, ys, zs, cells)", "is_body(value)", "prism(region, sides, axis, low, high, name)",
               "joined(body, other)", "cut(body, other)", "kept(body, other)", "volume(body)", "surface(body)",
               "extent(body)", "pieces(body)", "moved(body, by)", "turned(body, turns)", "holds(body, spot)",
               "common(body, other)", "same_places(body, other)"],
    "faces": ["faces(body)", "marks_of(body)", "face_area(body, face)", "face_plane(body, face)",
              "face_corner(body, face)", "is_face_name(value)", "bearers(body, name)", "meant(body, name)",
              "least_name(body, index)", "twin(body, index)", "name_paper(body, index, name)",
              "accepts_name(body, index, name, paper)"],
    "histories": ["is_feature(value)", "is_history(value)", "feature_numbers(feature)", "needs(feature)",
                  "plane_of(place, numbers, body)", "behind(body, feature, numbers)", "stages(history)",
                  "built(history)", "stop_of(history)"],
    "lineage": ["fate(body, index, other)", "fates(body, other)", "same_faces(body, other)",
                "followers(history, name)", "can_exchange(history, at)", "needless_features(history)"],
    "ranges": ["breaks(sketch, numbers, name, rings)", "stretches(sketch, numbers, name, rings)",
               "reach(sketch, numbers, leeways, p, q, axis)", "shares(sketch, numbers, leeways, p, q, axis)"],
    "versions": ["changes(history, other)", "changed(history, some)", "merged(base, left, right)"],
    "assemblies": ["is_assembly(value)", "fault_of(assembly)", "assembly_rows(assembly)", "placed(assembly)",
                   "put_together(assembly)", "accepts_placing(assembly, told, paper)", "placing_paper(assembly)",
                   "overlaps(bodies)", "contacts(bodies)", "contact(body, other)"],
    "apart": ["is_blocked(body, other, direction)", "blockers(bodies, name, direction)",
              "room(bodies, name, direction)", "taken_apart(bodies)", "accepts_order(bodies, steps)",
              "accepts_held(bodies, rows)"],
    "measures": ["centre(body)", "section(body, axis, at)", "flat_area(flat)", "thin_flat(us, vs, cells)",
                 "thinnest(body, axis)", "narrowest(body, axis)", "runs(body, axis)", "same_form(body, other)"],
    "views": ["view(body, direction)", "view_lines(seen)", "line_length(lines)", "seen_parts(body)"],
    "making": ["is_reached(body, directions)", "left_over(body, directions)", "least_directions(body)",
               "can_be_drawn(body, axis)", "hanging(body)"],
    "sheets": ["is_sheet(value)", "sheet_rows(sheet)", "settled_sheet(sheet)", "hangs_on(sheet, name)",
               "plain_names(sheet)"],
    "drags": ["dragged(sketch, numbers, shape, wishes)", "drag_paper(sketch, numbers, shape, wishes)",
              "accepts_drag(sketch, numbers, shape, wishes, drag, paper)", "moved_far(shape, other)"],
    "fixes": ["are_enough(sketch, numbers, points)", "least_fixes(sketch, numbers)",
              "met_by(sketch, numbers, name, gap, wish)"],
    "strokes": ["strokes(bodies, ways)", "are_clear(bodies, ways, time)", "stroke_at(bodies, ways, time)"],
    "standing": ["foot(body)", "hull(corners)", "stands(body)", "standing_paper(body)",
                 "accepts_standing(body, paper)"],
    "growing": ["grown(body, by)", "shrunk(body, by)", "opened(body, by)", "box_distance(body, other)"],
    "mirrors": ["mirrored(body, axis)", "mirrors(body)", "spins(body)"],
    "stacks": ["heights(bodies)", "top_of(bodies)", "stacked(bodies)", "rest_corners(body, others)",
               "holds_up(bodies)", "first_fall(bodies)"],
    "edges": ["edges(body)", "edge_length(body, kind)", "longest_edge(body)", "edges_of_face(body, index)"],
    "choosing": ["is_choice(value)", "chosen(body, choice)", "write_choice(choice)", "read_choice(text)"],
    "words": ["write_length(length)", "read_length(words)", "write_label(label)", "read_label(word)",
              "write_face_name(name)", "read_face_name(words)", "write_constraint(constraint)",
              "read_constraint(words)"],
    "texts": ["write_history(history)", "read_history(text)", "write_assembly(parts, mates)", "read_assembly(text)"],
    "slices": ["rings_of(flat)", "ring_area(ring)", "ring_length(ring)", "flat_of(rings)",
               "slices(body, axis, thickness)"],
    "checkrows": ["takes_clash(rows, factors)", "takes_values(rows, values)", "takes_frame(rows, frame)"],
    "checksketch": ["takes_told(sketch, numbers, told, paper)", "takes_shape(sketch, numbers, shape)",
                    "takes_drag(sketch, numbers, shape, wishes, drag, paper)"],
    "checkbody": ["takes_body(value)", "takes_name(body, face, name, others)", "takes_order(bodies, steps)",
                  "takes_held(bodies, rows)", "takes_standing(body, paper)"],
    "desk": ["answers_to(lines)"],
    "journal": ["resume(text)"],
}
CLASSES = {
    "errors": {"MitreError": [], "NotNumber": [], "NotThere": [], "NotRight": [], "TooLarge": [],
               "Malformed": ["__init__(self, at)"], "Stops": ["__init__(self, name, reason)"]},
    "drawings": {"Drawing": ["__init__(self, history)", "history(self)", "take(self, history)",
                             "set_number(self, name, ratio)", "drop_number(self, name)", "put(self, at, feature)",
                             "drop(self, name)", "body(self)", "anew(self)"]},
    "desk": {"Desk": ["__init__(self)", "obey(self, line)", "names(self)", "history(self, name)"]},
    "journal": {"Journal": ["__init__(self)", "obey(self, line)", "record(self)", "lines(self)"]},
}
CHECKERS = ("checkrows", "checksketch", "checkbody")
ALLOWED = """len range enumerate zip min max sum abs sorted reversed int str bool list tuple dict set isinstance ord repr
any all divmod ValueError TypeError KeyError IndexError LookupError ZeroDivisionError""".split()
METHODS = """append clear copy count endswith extend find get index insert isalnum isalpha isdigit islower isspace
isupper items join keys ljust lower lstrip partition pop remove replace reverse rfind rjust rpartition rsplit rstrip
setdefault split splitlines startswith strip update upper values zfill bit_length""".split()
LIBRARY = {"math": ["gcd", "lcm", "isqrt"], "itertools": ["combinations", "product"]}
BARRED = """typing enum Enum Flag ABC Generic Protocol namedtuple dataclass mro elements open input law register exec
eval compile globals locals vars dir id help exit""".split()
STATEMENTS = (ast.Assign, ast.AugAssign, ast.If, ast.While, ast.For, ast.Return, ast.Break, ast.Continue, ast.Pass,
              ast.Raise, ast.Try, ast.Expr, ast.FunctionDef, ast.ClassDef, ast.ImportFrom, ast.Delete, ast.Global)


def parsed():
    """Returns the dict from the names of the files to their texts and trees."""
    return {path.stem: (path.read_text(encoding="ascii"), ast.parse(path.read_text(encoding="ascii")))
            for path in sorted(PACKAGE.glob("*.py"))}


def signature(node):
    return node.name + "(" + ", ".join(one.arg for one in node.args.args) + ")"


def functions(tree):
    return [node for node in ast.walk(tree) if isinstance(node, ast.FunctionDef)]


def bound_names(node):
    """Returns the names that are bound within a function, its parameters and those of lambdas among them."""
    found = [one.arg for one in ast.walk(node) if isinstance(one, ast.arg)]
    found += [one.id for one in ast.walk(node) if isinstance(one, ast.Name) and isinstance(one.ctx, ast.Store)]
    return found + [one.name for one in ast.walk(node) if isinstance(one, ast.ExceptHandler) and one.name]


def module_names(tree):
    """Returns the lists of the names that a file imports, of its classes and functions, and of its values."""
    imported = [one.name for node in tree.body if isinstance(node, ast.ImportFrom) for one in node.names]
    defined = [node.name for node in tree.body if isinstance(node, (ast.FunctionDef, ast.ClassDef))]
    values = [node.targets[0].id for node in tree.body if isinstance(node, ast.Assign)]
    return imported, defined, values


class Interface(unittest.TestCase):
    def test_functions_are_defined_in_their_files(self):
        files = parsed()
        for name, told in INTERFACE.items():
            found = [signature(node) for node in files[name][1].body if isinstance(node, ast.FunctionDef)]
            for one in told:
                self.assertIn(one, found, name)

    def test_classes_and_their_methods(self):
        files = parsed()
        for name, told in CLASSES.items():
            found = {node.name: node for node in files[name][1].body if isinstance(node, ast.ClassDef)}
            for word, methods in told.items():
                there = [signature(node) for node in found[word].body if isinstance(node, ast.FunctionDef)]
                for one in methods:
                    self.assertIn(one, there, word)

    def test_each_function_and_class_has_a_docstring(self):
        for name, (_, tree) in parsed().items():
            self.assertTrue(ast.get_docstring(tree), name)
            for node in ast.walk(tree):
                if isinstance(node, ast.ClassDef) or isinstance(node, ast.FunctionDef) and node.name != "__init__":
                    self.assertTrue(ast.get_docstring(node), name + "." + node.name)


class Language(unittest.TestCase):
    def test_files(self):
        self.assertEqual([path.name for path in PACKAGE.iterdir() if path.suffix != ".py"
                          and path.name != "__pycache__"], [])
        for name, (text, _) in parsed().items():
            lines = text.split("\n")
            self.assertLessEqual(len(lines), 400, name)
            for line in lines:
                self.assertLessEqual(len(line), 120, line)
                self.assertTrue(all(" " <= letter <= "~" for letter in line), line)

    def test_functions_are_small(self):
        for name, (_, tree) in parsed().items():
            for node in functions(tree):
                self.assertLessEqual(node.end_lineno - node.lineno + 1, 40, name + "." + node.name)
                self.assertEqual(node.decorator_list, [])

    def test_imports(self):
        files = parsed()
        for name, (_, tree) in files.items():
            for node in ast.walk(tree):
                self.assertNotIsInstance(node, ast.Import)
            for node in [node for node in tree.body if isinstance(node, ast.ImportFrom)]:
                wanted = [one.name for one in node.names]
                if node.module in LIBRARY:
                    self.assertEqual([one for one in wanted if one not in LIBRARY[node.module]], [], name)
                    continue
                package, _, stem = node.module.partition(".")
                self.assertEqual(package, "mitrehouse")
                _, defined, values = module_names(files[stem][1])
                self.assertEqual([one for one in wanted if one not in defined + values], [], name)

    def test_checkers_import_errors_ratios_and_one_another(self):
        files = parsed()
        for name in CHECKERS:
            modules = [node.module for node in ast.walk(files[name][1]) if isinstance(node, ast.ImportFrom)]
            allowed = ["mitrehouse." + one for one in ("errors", "ratios") + CHECKERS]
            self.assertEqual([one for one in modules if one not in allowed], [], name)

    def test_no_name_is_a_method_and_an_attribute(self):
        methods, attributes = {}, {}
        for name, (_, tree) in parsed().items():
            for node in ast.walk(tree):
                if isinstance(node, ast.ClassDef):
                    methods.update({one.name: name for one in node.body if isinstance(one, ast.FunctionDef)})
                if isinstance(node, ast.Attribute) and isinstance(node.ctx, ast.Store):
                    attributes[node.attr] = name
        self.assertEqual([one for one in methods if one in attributes], [])

    def test_no_imports_in_rings(self):
        needed = {name: [node.module.partition(".")[2] for node in tree.body if isinstance(node, ast.ImportFrom)
                         and node.module not in LIBRARY] for name, (_, tree) in parsed().items()}
        while needed:
            free = [name for name in needed if not any(one in needed for one in needed[name])]
            self.assertTrue(free, needed)
            needed = {name: needed[name] for name in needed if name not in free}

    def test_everything_imported_or_assigned_is_used(self):
        for name, (text, tree) in parsed().items():
            used = {node.id for node in ast.walk(tree) if isinstance(node, ast.Name)
                    and isinstance(node.ctx, ast.Load)}
            imported, _, _ = module_names(tree)
            self.assertEqual([one for one in imported if one not in used], [], name)
            for node in functions(tree):
                read = {one.id for one in ast.walk(node) if isinstance(one, ast.Name)
                        and isinstance(one.ctx, ast.Load)}
                local = [one.id for one in ast.walk(node) if isinstance(one, ast.Name)
                         and isinstance(one.ctx, ast.Store) and one.id != "_"]
                self.assertEqual([one for one in local if one not in read], [], name + "." + node.name)

    def test_helpers_are_used(self):
        texts = parsed()
        told = [one.partition("(")[0] for names in INTERFACE.values() for one in names]
        read = {node.id for _, tree in texts.values() for node in ast.walk(tree) if isinstance(node, ast.Name)
                and isinstance(node.ctx, ast.Load)}
        for name, (_, tree) in texts.items():
            _, defined, values = module_names(tree)
            for one in defined + values:
                self.assertTrue(one in read or one in told or one in ("Drawing", "Malformed", "Journal"), name + "." + one)

    def test_names_have_one_meaning(self):
        taken = [one for one in dir(builtins) if one != "_"]
        for name, (_, tree) in parsed().items():
            imported, defined, values = module_names(tree)
            here = imported + defined + values
            self.assertEqual(len(here), len(set(here)), name)
            self.assertEqual([one for one in here if one in taken], [], name)
            classes = [node.name for node in tree.body if isinstance(node, ast.ClassDef)]
            for node in functions(tree):
                bound = bound_names(node)
                self.assertEqual([one for one in bound if one in imported or one in classes or one in taken], [],
                                 name + "." + node.name)

    def test_only_told_words_of_python(self):
        own = {node.name for _, tree in parsed().values() for node in functions(tree)}
        for name, (_, tree) in parsed().items():
            here = set(sum(module_names(tree), []))
            for node in ast.walk(tree):
                if isinstance(node, ast.Name) and isinstance(node.ctx, ast.Load) and hasattr(builtins, node.id):
                    self.assertIn(node.id, ALLOWED, name)
                if isinstance(node, ast.Name):
                    self.assertNotIn(node.id, BARRED, name)
                    self.assertFalse(node.id.startswith("__"), name)
                if isinstance(node, ast.Call) and isinstance(node.func, ast.Attribute):
                    self.assertTrue(node.func.attr in METHODS or node.func.attr in own or node.func.attr == "__init__",
                                    name + "." + node.func.attr)
            self.assertTrue(here.isdisjoint(BARRED), name)

    def test_only_told_statements_and_signs(self):
        barred = (ast.Nonlocal, ast.AsyncFunctionDef, ast.Yield, ast.YieldFrom, ast.Await, ast.Starred,
                  ast.NamedExpr, ast.Div, ast.Pow, ast.MatMult, ast.Set, ast.AnnAssign, ast.Match, ast.With)
        for name, (_, tree) in parsed().items():
            for node in ast.walk(tree):
                if isinstance(node, ast.stmt):
                    self.assertIsInstance(node, STATEMENTS, name)
                if isinstance(node, ast.Constant):
                    self.assertNotIsInstance(node.value, (float, complex), name)
                if isinstance(node, ast.Constant) and isinstance(node.value, str):
                    self.assertNotIn("%", node.value)
                if not (name == "ratios" and isinstance(node, ast.Pow)):
                    self.assertNotIsInstance(node, barred, name)
                if isinstance(node, ast.ExceptHandler):
                    self.assertIn(node.type.id, list(CLASSES["errors"]) + ["Refused"], name)

    def test_the_library_is_not_asked_in_generators(self):
        words = [word for words in LIBRARY.values() for word in words]
        for name, (_, tree) in parsed().items():
            for node in ast.walk(tree):
                if isinstance(node, ast.GeneratorExp):
                    calls = [one.func.id for one in ast.walk(node) if isinstance(one, ast.Call)
                             and isinstance(one.func, ast.Name)]
                    self.assertEqual([one for one in calls if one in words], [], name)

    def test_global_names(self):
        files = parsed()
        imported = [one for _, tree in files.values() for one in module_names(tree)[0]]
        for name, (_, tree) in files.items():
            plain = {node.targets[0].id: node.value for node in tree.body if isinstance(node, ast.Assign)}
            lines = [node for node in ast.walk(tree) if isinstance(node, ast.Global)]
            # Each stands first behind the docstring of a function, and names one plain value of its own file.
            heads = [node.body[1] for node in tree.body if isinstance(node, ast.FunctionDef) and len(node.body) > 1]
            for line in lines:
                self.assertIn(line, heads, name)
                self.assertEqual(len(line.names), 1)
                self.assertIsInstance(plain[line.names[0]], ast.Constant)
                self.assertNotIn(line.names[0], imported)

    def test_sets_are_not_kept(self):
        for name, (_, tree) in parsed().items():
            for node in ast.walk(tree):
                if isinstance(node, ast.Assign):
                    self.assertNotIsInstance(node.value, (ast.Set, ast.SetComp), name)


if __name__ == "__main__":
    unittest.main()
