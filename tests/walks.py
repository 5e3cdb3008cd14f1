"""Finds the loops and comprehensions that change what they walk (rule L23 of LANGUAGE.md).

Looked at is what stands in a loop, what the functions do that it calls, and other names of the same thing.
"""

import ast

MODIFYING = set("append clear extend insert pop remove reverse setdefault sort update add discard".split())
# What goes through its arguments one by one, and makes no copy of them first.
GOING_THROUGH = {"enumerate", "zip", "reversed", "iter"}
COPYING = {"list", "tuple", "dict", "sorted", "sum", "min", "max", "any", "all", "set"}
KEY_VIEWS = {"items", "keys", "values"}
COMPREHENSIONS = (ast.ListComp, ast.SetComp, ast.DictComp, ast.GeneratorExp)


def rows_that_change(*texts):
    """Returns for each text of a file the rows of the loops and comprehensions that change what they walk."""
    finder = Finder([ast.parse(text) for text in texts])
    return [finder.rows_in(tree) for tree in finder.trees]


def choices_of(node):
    """Returns the expressions of which one is the value of an expression."""
    if isinstance(node, ast.IfExp):
        return choices_of(node.body) + choices_of(node.orelse)
    if isinstance(node, ast.BoolOp):
        return [each for part in node.values for each in choices_of(part)]
    if isinstance(node, ast.NamedExpr):
        return [node.target] + choices_of(node.value)
    return [node]


def is_kept(node):
    """Tells whether an expression tells a thing that is reached in other ways, too; a slice is a new thing."""
    if isinstance(node, ast.Subscript):
        return not isinstance(node.slice, ast.Slice)
    return isinstance(node, (ast.Name, ast.Attribute))


def way_to(node):
    """Returns how an expression reaches a thing, as a tuple; an item may be any item, however its index is written."""
    if isinstance(node, ast.Subscript):
        return (*way_to(node.value), "[]")
    if isinstance(node, ast.Attribute):
        return (*way_to(node.value), f".{node.attr}")
    return (ast.unparse(node),)


def ways_meant(node, names):
    """Returns all ways to the thing of an expression, those through other names included."""
    found, waiting = set(), [way_to(node)]
    while waiting:
        way = waiting.pop()
        if way not in found:
            found.add(way)
            # No way is longer than this, also where a name is taken for a part of itself.
            waiting.extend((*other, *way[1:]) for other in names.get(way[0], ()) if len(way) + len(other) < 12)
    return found


def names_within(function):
    """Returns a dict from the names of a function to the ways to what it takes them for."""
    found = {}
    for node in ast.walk(function):
        targets = node.targets if isinstance(node, ast.Assign) else []
        if isinstance(node, (ast.NamedExpr, ast.AnnAssign)):
            targets = [node.target]
        for target in targets:
            if isinstance(target, ast.Name):
                ways = [way_to(each) for each in choices_of(node.value) if is_kept(each)]
                found.setdefault(target.id, set()).update(ways)
    return found


def walked_by(node):
    """Returns the expressions that are gone through, and are not copied first."""
    found = []
    for each in choices_of(node):
        if isinstance(each, ast.Call) and isinstance(each.func, ast.Name) and each.func.id in GOING_THROUGH:
            found.extend(part for argument in each.args for part in walked_by(argument))
        elif isinstance(each, ast.Call) and isinstance(each.func, ast.Attribute) and each.func.attr in KEY_VIEWS:
            found.extend(walked_by(each.func.value))
        elif isinstance(each, ast.GeneratorExp):
            found.extend(part for generator in each.generators for part in walked_by(generator.iter))
        elif is_kept(each):
            found.append(each)
    return found


def calls_in(nodes):
    return [node for top in nodes for node in ast.walk(top) if isinstance(node, ast.Call)]


def word_called(call):
    """Returns the name of the function or method that a call calls, or None."""
    return getattr(call.func, "id", getattr(call.func, "attr", None))


def changed_directly(nodes):
    """Returns the expressions whose things some nodes change, in an item or by a method that modifies."""
    found = [node.value for top in nodes for node in ast.walk(top)
             if isinstance(node, ast.Subscript) and not isinstance(node.ctx, ast.Load)]
    found += [node.target for top in nodes for node in ast.walk(top) if isinstance(node, ast.AugAssign)]
    found += [call.func.value for call in calls_in(nodes)
              if isinstance(call.func, ast.Attribute) and call.func.attr in MODIFYING]
    return [each for part in found for each in choices_of(part)]


def attributes_in(nodes):
    return {node.attr for node in nodes if isinstance(node, ast.Attribute)}


def is_generator(function):
    return any(isinstance(node, (ast.Yield, ast.YieldFrom)) for node in ast.walk(function))


def walks_at(node):
    """Returns pairs of what a loop or comprehension goes through, and the nodes that are done meanwhile."""
    if isinstance(node, ast.For):
        return [(node.iter, node.body)]
    if not isinstance(node, COMPREHENSIONS):
        return []
    done = [node.key, node.value] if isinstance(node, ast.DictComp) else [node.elt]
    done += [test for each in node.generators for test in each.ifs]
    # What a later part of a comprehension goes through is evaluated while the first one is gone through.
    done += [each.iter for each in node.generators[1:]]
    return [(each.iter, done) for each in node.generators]


def parameters_of(function):
    return [each.arg for each in function.args.posonlyargs + function.args.args + function.args.kwonlyargs]


def passed_to(function, call):
    """Returns a dict from the parameters of a function to what a call passes for them."""
    words = parameters_of(function)
    if isinstance(call.func, ast.Attribute) and words[:1] in (["self"], ["cls"]):
        words = words[1:]
    return {**dict(zip(words, call.args)), **{each.arg: each.value for each in call.keywords}}


class Finder:
    """Looks in the trees of all files of a package."""

    def __init__(self, trees):
        self.trees = trees
        self.functions = {}
        for tree in trees:
            for node in ast.walk(tree):
                if isinstance(node, ast.FunctionDef):
                    self.functions.setdefault(node.name, []).append(node)
        # For each function the names of the attributes and of its own parameters that it changes.
        self.attributes = {function: set() for each in self.functions.values() for function in each}
        self.parameters = {function: set() for function in self.attributes}
        many = -1
        while many < self.known():
            many = self.known()
            for function in self.attributes:
                self.note_changes(function)

    def known(self):
        """Returns how many changes are known so far."""
        return sum(len(each) for table in (self.attributes, self.parameters) for each in table.values())

    def note_changes(self, function):
        """Notes what a function changes, as far as it is known of the functions that it calls."""
        names = names_within(function)
        changed = self.changed_by(function.body)
        ways = [way for each in changed for way in ways_meant(each, names)]
        self.attributes[function] |= {way[-1][1:] for way in ways if way[-1].startswith(".")}
        self.attributes[function] |= self.attributes_changed(function.body)
        self.parameters[function] |= {way[0] for way in ways if len(way) == 1} & set(parameters_of(function))

    def called(self, call):
        """Returns the functions and methods that a call may call."""
        return self.functions.get(word_called(call), [])

    def changed_by(self, nodes):
        """Returns the expressions whose things some nodes change, in functions to which they pass them, too."""
        found = changed_directly(nodes)
        for call in calls_in(nodes):
            for function in self.called(call):
                passed = passed_to(function, call)
                found += [each for word in self.parameters[function] & set(passed) for each in choices_of(passed[word])]
        return found

    def attributes_changed(self, nodes):
        """Returns the attributes that the functions change which some nodes call."""
        return {word for call in calls_in(nodes) for function in self.called(call) for word in self.attributes[function]}

    def generator_calls(self, head):
        """Returns the calls of generators that a loop with this head goes through, also through a copy."""
        found = []
        for each in choices_of(head):
            if not isinstance(each, ast.Call):
                continue
            if any(is_generator(function) for function in self.called(each)):
                found.append(each)
            elif isinstance(each.func, ast.Name) and each.func.id in GOING_THROUGH | COPYING:
                found.extend(call for argument in each.args for call in self.generator_calls(argument))
        return found

    def attributes_walked(self, call):
        """Returns the attributes that the generator of a call goes through."""
        heads = []
        for function in self.called(call):
            heads += [head for node in ast.walk(function) for head, body in walks_at(node)]
            heads += [node.value for node in ast.walk(function) if isinstance(node, ast.YieldFrom)]
        return attributes_in([each for head in heads for each in walked_by(head)])

    def is_changed(self, head, body, names):
        """Tells whether the body of a loop with this head changes what the loop goes through."""
        walked, attributes = walked_by(head), set()
        for call in self.generator_calls(head):
            passed = call.args + [each.value for each in call.keywords]
            walked = walked + [each for part in passed for each in choices_of(part) if is_kept(each)]
            attributes |= self.attributes_walked(call)
        changed = self.changed_by(body)
        meant = {way for each in changed for way in ways_meant(each, names)}
        if any(ways_meant(each, names) & meant for each in walked):
            return True
        # What a generator goes through, and what functions change, is known by the names of attributes alone.
        ends = {way[-1][1:] for each in walked for way in ways_meant(each, names) if way[-1].startswith(".")}
        return bool(attributes & attributes_in(changed) or (attributes | ends) & self.attributes_changed(body))

    def rows_in(self, tree):
        """Returns the rows of the loops of a tree that change what they walk."""
        found = set()
        for function in [node for node in ast.walk(tree) if isinstance(node, ast.FunctionDef)]:
            names = names_within(function)
            for node in ast.walk(function):
                if any(self.is_changed(head, body, names) for head, body in walks_at(node)):
                    found.add(node.lineno)
        return sorted(found)
