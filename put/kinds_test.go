package put_test

import "testing"

// P22.1: those of w alone: Id, Copy, Rename, Hoist, Plunge, Lift, Sink, Translate.
func TestAlone(t *testing.T) {
	rows{
		{"str", "id", "x", "y", "x"},
		{"$t", "id", "[x, [y]]", "z", "[x, [y]]"},
		{"[seq any]", "id", "[!leaf 1]", "[!leaf 2, !leaf 1]", "[!leaf 1]"},
		{"{map a?:str b?:any}", "id", "{a: x}", "{a: y, b: !leaf 0}", "{a: x}"},
		{"any", "copy", "!leaf 0", "!leaf 1", "!leaf 0"},
		{"$d", "copy", "!leaf 7", "!leaf 7", "!leaf 7"},
		{"{map a?:str b:int}", "{rename: {a: c}}", "{b: 1, c: x}", "{a: y, b: 2}", "{a: x, b: 1}"},
		{"{map a?:str b:int}", "{rename: {a: c}}", "{b: 1}", "{a: y, b: 2}", "{b: 1}"},
		{"{!m a:str b:str}", "{rename: {a: b, b: a}}", "!m {a: x, b: y}", "!m {a: v, b: w}", "!m {a: y, b: x}"},
		{"{!m a:[seq str]}", "{hoist: a}", "[x]", "!m {a: [y, z]}", "!m {a: [x]}"},
		{"$o", "{hoist: a}", "!leaf 1", "!o {a: !leaf 2}", "!o {a: !leaf 1}"},
		{"[!l str]", "{plunge: a}", "{a: !l [x]}", "!l [y, z]", "!l [x]"},
		{"any", "{plunge: ''}", "{'': !leaf 3}", "!leaf 4", "!leaf 3"},
		{"$m", "{lift: a}", "!m {x: x, y: 1}", "!m {a: !in {x: y}, b: z}", "!m {a: !in {x: x, y: 1}}"},
		{"$m", "{lift: a}", "!m {b: v, x: x}", "!m {a: !in {x: y, y: 2}}", "!m {a: !in {x: x}, b: v}"},
		{"{map a?:str b:int}", "{sink: {into: c, keys: [a]}}", "{b: 1, c: {a: x}}", "{b: 2}", "{a: x, b: 1}"},
		{"{map a?:str b:int}", "{sink: {into: c, keys: [a]}}", "{b: 1, c: {}}", "{a: y, b: 2}", "{b: 1}"},
		{"$e", "{translate: {a: b, b: a}}", "b", "b", "a"},
		{"<int '1' '2'>", "{translate: {'1': '5', '2': '1'}}", "1", "1", "2"},
	}.hold(t)
}

// P22.1: Const, Use.
func TestConstUse(t *testing.T) {
	rows{
		{"str", "{const: {view: x, default: y}}", "x", "z", "z"},
		{"str", "{const: {view: x, default: y}}", "x", "y", "y"},
		{"$t", "{const: {view: 1, default: y}}", "1", "[x, [z]]", "[x, [z]]"},
		{"[seq any]", "{const: {view: ~, default: []}}", "~", "[!leaf 3, !leaf 3]", "[!leaf 3, !leaf 3]"},
		{"$s", "{use: name}", "x", "y", "x"},
		{"any", "{use: twice}", "{b: {a: !leaf 1}}", "!leaf 2", "!leaf 1"},
		{"$rec", "{use: fill}", "{k: x, v: 0}", "{k: y}", "{k: x}"},
		{"$rec", "{use: fill}", "{k: x, v: 0}", "{k: y, v: 1}", "{k: x, v: 0}"},
		// Those that lead back to themselves.
		{"$t", "{use: grow}", "{k: x}", "[y]", "x"},
		{"$t", "{use: grow}", "[{k: x}, [{k: y}, []]]", "[[z], [], z]", "[x, [y, []]]"},
		{"$g", "{use: deep}", "{n: x}", "{n: a, s: [{n: b}]}", "{n: a}"},
		{"$g", "{use: deep}", "{n: x, s: [{n: x, s: [{n: x}, {n: x}]}, {n: x}]}", "{n: a, s: [{n: b, s: [{n: c}]}]}", "{n: a, s: [{n: b, s: [{n: c}, {n: y}]}, {n: y}]}"},
		{"$g", "{use: deep}", "{n: x, s: [{n: x}, {n: x}]}", "{n: a, s: [{n: b, s: [{n: c}]}, {n: d}, {n: e}]}", "{n: a, s: [{n: b}, {n: d}]}"},
		{"$g", "{use: deep}", "{n: x, s: [{n: x}]}", "{n: a}", "{n: a, s: [{n: y}]}"},
		{"$k", "{use: rows}", "[{k: c, v: 0}, {k: b, v: 0}, {k: a, v: 2}]", "[{k: a}, {k: b, v: 1}]", "[{k: c}, {k: b, v: 0}, {k: a, v: 2}]"},
	}.hold(t)
}

// P22.1: Compose: each Kid has its own source.
func TestCompose(t *testing.T) {
	const a, in = "{project: {keep: [a], default: {b: 0}}}", "{project: {keep: [x], default: {y: 9}}}"
	rows{
		{"str", "{compose: [id]}", "x", "y", "x"},
		{"{map a:str b:int}", "{compose: [" + a + "]}", "{a: x}", "{a: y, b: 1}", "{a: x, b: 1}"},
		{"{map a:str b:int}", "{compose: [id, " + a + "]}", "{a: x}", "{a: y, b: 1}", "{a: x, b: 1}"},
		{"{map a:str b:int}", "{compose: [" + a + ", {hoist: a}, {plunge: k}]}", "{k: x}", "{a: y, b: 1}", "{a: x, b: 1}"},
		{"{map a:{map x:str y:int} b:int}", "{compose: [" + a + ", {hoist: a}, " + in + ", {hoist: x}]}", "v", "{a: {x: w, y: 2}, b: 1}", "{a: {x: v, y: 2}, b: 1}"},
		{"{map a:{map x:str y:int} b:int}", "{compose: [{compose: [" + a + ", {hoist: a}]}, {compose: [" + in + ", {hoist: x}]}]}", "v", "{a: {x: w, y: 2}, b: 1}", "{a: {x: v, y: 2}, b: 1}"},
		{"{map a:{map x:str y:int} b:int}", "{compose: [{compose: [{compose: [" + a + "]}, {compose: [{hoist: a}, id]}, " + in + "]}, {hoist: x}]}", "v", "{a: {x: w, y: 2}, b: 1}", "{a: {x: v, y: 2}, b: 1}"},
		{"{map a:str b:int c:int}", "{compose: [{project: {keep: [a, b], default: {c: 7}}}, {rename: {a: b, b: a}}, {project: {keep: [b], default: {a: 8}}}]}", "{b: x}", "{a: y, b: 1, c: 2}", "{a: x, b: 1, c: 2}"},
		{"[seq (str|int|null)]", "{compose: [{filter: [.int, .str]}, {filter: [.int]}]}", "[5, 6, 7]", "[~, x, 1, ~, y, 2, ~]", "[~, x, 5, ~, y, 6, ~, 7]"},
		{"[seq (str|int|null)]", "{compose: [{filter: [.int, .str]}, {filter: [.int]}]}", "[]", "[~, x, 1, ~, y, 2, ~]", "[~, x, y, ~, ~]"},
		{"{map *:(str|int|null)}", "{compose: [{filter: [.int, .str]}, {filter: [.int]}]}", "{b: 5, e: 6}", "{a: ~, b: x, c: 1, d: y, e: ~}", "{a: ~, b: 5, d: y, e: 6}"},
		{"str", "{compose: [{const: {view: x, default: y}}, {const: {view: z, default: x}}]}", "z", "q", "q"},
		{"{map a?:str b:int}", "{compose: [" + a + ", {const: {view: 1, default: {}}}]}", "1", "{a: y, b: 1}", "{a: y, b: 1}"},
		{"{map a?:str b?:int}", "{compose: [{fill: {key: a, value: x}}, {fill: {key: b, value: 0}}]}", "{a: x, b: 0}", "{a: y}", "{a: x}"},
		{"{map a?:str b?:int}", "{compose: [{fill: {key: a, value: x}}, {fill: {key: b, value: 0}}]}", "{a: x, b: 0}", "{b: 1}", "{b: 0}"},
		{"{map a?:str b:int}", "{compose: [{fill: {key: a, value: x}}, {project: {keep: [a], default: {b: 0}}}]}", "{a: x}", "{b: 1}", "{b: 1}"},
		{"[seq {map a:str b:int}]", "{compose: [{items: " + a + "}, {items: {hoist: a}}]}", "[x, y]", "[{a: v, b: 1}]", "[{a: x, b: 1}, {a: y, b: 0}]"},
		{"[seq {map a:str b:int}]", "{items: {compose: [" + a + ", {hoist: a}]}}", "[x, y]", "[{a: v, b: 1}]", "[{a: x, b: 1}, {a: y, b: 0}]"},
		{"{map a:{map m:int n:str} b:int}", "{compose: [{lift: a}, {project: {keep: [n], default: {b: 3, m: 4}}}, {sink: {into: s, keys: [n]}}, {hoist: s}]}", "{n: x}", "{a: {m: 1, n: y}, b: 2}", "{a: {m: 1, n: x}, b: 2}"},
		{"(str|[seq str])", "{compose: [{union: [id, {const: {view: 1, default: []}}]}, {union: [{const: {view: ~, default: q}}, id]}]}", "1", "[x]", "[x]"},
		{"(str|[seq str])", "{compose: [{union: [id, {const: {view: 1, default: []}}]}, {union: [{const: {view: ~, default: q}}, id]}]}", "~", "[x]", "q"},
		{"(str|[seq str])", "{compose: [{union: [id, {const: {view: 1, default: []}}]}, {union: [{const: {view: ~, default: q}}, id]}]}", "1", "x", "[]"},
		{"(str|[seq str])", "{compose: [{union: [id, {const: {view: 1, default: []}}]}, {union: [{const: {view: ~, default: q}}, id]}]}", "~", "x", "x"},
	}.hold(t)
}

// P22.1: Project: what isn't shown stays, a rest, too.
func TestProject(t *testing.T) {
	rows{
		{"{map a:str b:int}", "{project: {keep: [a], default: {b: 0}}}", "{a: x}", "{a: y, b: 1}", "{a: x, b: 1}"},
		{"{map a:str b:int}", "{project: {keep: [b], default: {a: ''}}}", "{b: 2}", "{a: y, b: 1}", "{a: y, b: 2}"},
		{"{map a:str b?:int}", "{project: {keep: [a]}}", "{a: x}", "{a: y}", "{a: x}"},
		{"{map a:str b?:int}", "{project: {keep: [a]}}", "{a: x}", "{a: y, b: 1}", "{a: x, b: 1}"},
		{"{map a?:str b?:int}", "{project: {keep: [a]}}", "{}", "{a: y, b: 1}", "{b: 1}"},
		{"{map a?:str b?:int}", "{project: {keep: [a]}}", "{a: x}", "{b: 1}", "{a: x, b: 1}"},
		{"{map a?:str b?:int}", "{project: {keep: [a]}}", "{}", "{}", "{}"},
		{"{map a:str b:int}", "{project: {keep: [a, b]}}", "{a: x, b: 2}", "{a: y, b: 1}", "{a: x, b: 2}"},
		{"{map a:str b:int}", "{project: {keep: [], default: {a: '', b: 0}}}", "{}", "{a: y, b: 1}", "{a: y, b: 1}"},
		{"{map a:str *:any}", "{project: {keep: [a]}}", "{a: x}", "{a: y, b: !leaf 0, c: !leaf 1}", "{a: x, b: !leaf 0, c: !leaf 1}"},
		{"{map *:any}", "{project: {keep: []}}", "{}", "{a: !leaf 1, b: !leaf 0}", "{a: !leaf 1, b: !leaf 0}"},
		{"{!m a:any b:any}", "{compose: [{project: {keep: [a, b]}}]}", "!m {a: !leaf 0, b: !leaf 0}", "!m {a: !leaf 1, b: !leaf 0}", "!m {a: !leaf 0, b: !leaf 0}"},
		{"{!m '':str z:str}", "{project: {keep: [z], default: {'': q}}}", "!m {z: x}", "!m {'': v, z: w}", "!m {'': v, z: x}"},
	}.hold(t)
}

// P22.1: Filter, of a List and of a Record.
func TestFilter(t *testing.T) {
	const u = "(str|int|[seq str]|{map *:any})"
	const l, m = "[seq " + u + "]", "{map *:" + u + "}"
	rows{
		{l, "{filter: [.int]}", "[]", "[]", "[]"},
		{l, "{filter: [.int]}", "[1, 2]", "[]", "[1, 2]"},
		{l, "{filter: [.int]}", "[]", "[1, x, 2, y]", "[x, y]"},
		{l, "{filter: [.int]}", "[5]", "[1, x, 2, y]", "[5, x, y]"},
		{l, "{filter: [.int]}", "[5, 6]", "[1, x, 2, y]", "[5, x, 6, y]"},
		{l, "{filter: [.int]}", "[5, 6, 7, 8]", "[1, x, 2, y]", "[5, x, 6, y, 7, 8]"},
		{l, "{filter: [.int]}", "[5, 6]", "[x, y]", "[x, y, 5, 6]"},
		{l, "{filter: [.int]}", "[5, 6]", "[[x], {a: !leaf 0}, 1, x, 2]", "[[x], {a: !leaf 0}, 5, x, 6]"},
		{l, "{filter: [.int, '{map']}", "[{a: !leaf 1}, 6]", "[x, 1, y, {}, z]", "[x, {a: !leaf 1}, y, 6, z]"},
		{l, "{filter: ['[seq']}", "[[z], []]", "[x, [y], [], 1]", "[x, [z], [], 1]"},
		{"[!l (str|!a|!b)]", "{filter: ['.!a', '.!b']}", "!l [!b x]", "!l [v, !a x, w, !b y, z]", "!l [v, !b x, w, z]"},
		{"[seq (bool|$u)]", "{filter: [.int, .str, '[seq']}", "[x]", "[true, 1, false, [x]]", "[true, x, false]"},
		{m, "{filter: [.int]}", "{}", "{}", "{}"},
		{m, "{filter: [.int]}", "{a: 1}", "{}", "{a: 1}"},
		{m, "{filter: [.int]}", "{}", "{a: 1, b: x, c: 2}", "{b: x}"},
		{m, "{filter: [.int]}", "{a: 5, c: 6, d: 7}", "{a: 1, b: x, c: 2, e: 3}", "{a: 5, b: x, c: 6, d: 7}"},
		// What isn't shown gives way where w has its key.
		{m, "{filter: [.int]}", "{b: 5}", "{a: 1, b: x, c: [y]}", "{b: 5, c: [y]}"},
		{m, "{filter: [.int, .str]}", "{a: x, b: 1}", "{a: 1, b: x, c: [y], d: {e: !leaf 2}}", "{a: x, b: 1, c: [y], d: {e: !leaf 2}}"},
		{"{!m *:$u}", "{filter: ['[seq']}", "!m {'': [x]}", "!m {'': y, a: [z], b: 1}", "!m {'': [x], b: 1}"},
	}.hold(t)
}

// P22.1: Map, Items, Keyed, On: into what stands there; where nothing does, the new source.
func TestParts(t *testing.T) {
	const a = "{project: {keep: [a], default: {b: 0}}}"
	rows{
		{"{map *:{map a:str b:int}}", "{map: " + a + "}", "{}", "{k: {a: y, b: 1}}", "{}"},
		{"{map *:{map a:str b:int}}", "{map: " + a + "}", "{k: {a: x}}", "{}", "{k: {a: x, b: 0}}"},
		{"{map *:{map a:str b:int}}", "{map: " + a + "}", "{j: {a: x}, k: {a: x}, l: {a: x}}", "{i: {a: y, b: 1}, k: {a: y, b: 2}, m: {a: y, b: 3}}", "{j: {a: x, b: 0}, k: {a: x, b: 2}, l: {a: x, b: 0}}"},
		{"{!m *:[seq any]}", "{map: {const: {view: x, default: []}}}", "!m {'': x, b: x}", "!m {'': [!leaf 1], a: [!leaf 2]}", "!m {'': [!leaf 1], b: []}"},
		{"{map *:{map *:{map a:str b:int}}}", "{map: {map: " + a + "}}", "{j: {k: {a: x}}, l: {k: {a: x}}}", "{j: {k: {a: y, b: 1}}, l: {j: {a: y, b: 2}}}", "{j: {k: {a: x, b: 1}}, l: {k: {a: x, b: 0}}}"},

		{"[seq {map a:str b:int}]", "{items: " + a + "}", "[]", "[{a: y, b: 1}]", "[]"},
		{"[seq {map a:str b:int}]", "{items: " + a + "}", "[{a: x}]", "[{a: y, b: 1}, {a: x, b: 2}]", "[{a: x, b: 1}]"},
		{"[seq {map a:str b:int}]", "{items: " + a + "}", "[{a: x}, {a: v}, {a: w}]", "[{a: y, b: 1}, {a: x, b: 2}]", "[{a: x, b: 1}, {a: v, b: 2}, {a: w, b: 0}]"},
		{"[!l [seq {map a:str b:int}]]", "{items: {items: " + a + "}}", "!l [[{a: x}, {a: x}], [{a: x}]]", "!l [[{a: y, b: 1}], [{a: y, b: 2}, {a: y, b: 3}]]", "!l [[{a: x, b: 1}, {a: x, b: 0}], [{a: x, b: 2}]]"},

		{"[seq by a {map a:str b:int}]", "{keyed: " + a + "}", "[]", "[{a: y, b: 1}]", "[]"},
		{"[seq by a {map a:str b:int}]", "{keyed: " + a + "}", "[{a: x}, {a: y}, {a: z}]", "[{a: z, b: 1}, {a: w, b: 2}, {a: y, b: 3}]", "[{a: x, b: 0}, {a: y, b: 3}, {a: z, b: 1}]"},
		{"[!l by a {map a:int b:int}]", "{keyed: " + a + "}", "!l [{a: 2}, {a: 1}]", "!l [{a: 1, b: 1}, {a: 2, b: 2}]", "!l [{a: 2, b: 2}, {a: 1, b: 1}]"},
		{"[seq by '' {map '':<!a 'p' 'q'> a?:any}]", "{keyed: {project: {keep: ['']}}}", "[{'': !a q}]", "[{'': !a p, a: !leaf 0}, {'': !a q, a: !leaf 1}]", "[{'': !a q, a: !leaf 1}]"},
		{"[seq by k {map k:str v?:int}]", "{keyed: {project: {keep: [k]}}}", "[{k: y}, {k: x}, {k: z}]", "[{k: x, v: 1}, {k: y}, {k: w, v: 2}]", "[{k: y}, {k: x, v: 1}, {k: z}]"},
		{"$k", "{keyed: {use: fill}}", "[{k: y, v: 0}, {k: x, v: 0}, {k: z, v: 0}]", "[{k: x, v: 1}, {k: y}]", "[{k: y}, {k: x, v: 0}, {k: z}]"},

		{"{map a:{map a:str b:int} b:str}", "{on: {a: " + a + "}}", "{a: {a: x}, b: v}", "{a: {a: y, b: 1}, b: w}", "{a: {a: x, b: 1}, b: v}"},
		{"{!m a?:{map a:str b:int} b?:any}", "{on: {a: " + a + "}}", "!m {a: {a: x}}", "!m {b: !leaf 0}", "!m {a: {a: x, b: 0}}"},
		{"{!m a?:{map a:str b:int} b?:any}", "{on: {a: " + a + "}}", "!m {b: !leaf 1}", "!m {a: {a: x, b: 1}}", "!m {b: !leaf 1}"},
		{"{map a:{map a:str b:int} b:{map a:str b:int} c?:{map a:str b:int}}", "{on: {a: " + a + ", c: " + a + "}}", "{a: {a: x}, b: {a: x, b: 9}, c: {a: x}}", "{a: {a: y, b: 1}, b: {a: y, b: 2}, c: {a: y, b: 3}}", "{a: {a: x, b: 1}, b: {a: x, b: 9}, c: {a: x, b: 3}}"},
		{"{map a:str *:any}", "{on: {a: {const: {view: 1, default: ''}}}}", "{a: 1, b: !leaf 1}", "{a: y, b: !leaf 2, c: !leaf 3}", "{a: y, b: !leaf 1}"},
		{"{map a?:str}", "{on: {a: {const: {view: 1, default: d}}}}", "{a: 1}", "{}", "{a: d}"},
		{"{map a?:str}", "{on: {a: {const: {view: 1, default: d}}}}", "{}", "{a: x}", "{}"},
	}.hold(t)
}

// P22.1: Union: into s, if that is of the Item in the same place; else the new source.
func TestUnion(t *testing.T) {
	const u = "{union: [{const: {view: a, default: d}}, {const: {view: 0, default: 9}}, {items: {const: {view: b, default: e}}}]}"
	rows{
		{"$u", u, "a", "x", "x"},
		{"$u", u, "0", "5", "5"},
		{"$u", u, "a", "5", "d"},
		{"$u", u, "0", "x", "9"},
		{"$u", u, "0", "[x]", "9"},
		{"$u", u, "[b, b]", "[x]", "[x, e]"},
		{"$u", u, "[b, b]", "x", "[e, e]"},
		{"$u", u, "[]", "[x]", "[]"},
		// What has the head of the Source's other Item.
		{"(int|str)", "{union: [{const: {view: a, default: 7}}, {const: {view: 1, default: b}}]}", "a", "5", "5"},
		{"(int|str)", "{union: [{const: {view: a, default: 7}}, {const: {view: 1, default: b}}]}", "a", "x", "7"},
		{"(int|str)", "{union: [{const: {view: a, default: 7}}, {const: {view: 1, default: b}}]}", "1", "x", "x"},
		{"(int|str)", "{union: [{const: {view: a, default: 7}}, {const: {view: 1, default: b}}]}", "1", "5", "b"},
		// An Item that is a Union itself, or a Name of one.
		{"(null|(str|int))", "{union: [id, {union: [{const: {view: x, default: y}}, {const: {view: 1, default: 2}}]}]}", "x", "z", "z"},
		{"(null|(str|int))", "{union: [id, {union: [{const: {view: x, default: y}}, {const: {view: 1, default: 2}}]}]}", "x", "5", "y"},
		{"(null|(str|int))", "{union: [id, {union: [{const: {view: x, default: y}}, {const: {view: 1, default: 2}}]}]}", "1", "~", "2"},
		{"(null|(str|int))", "{union: [id, {const: {view: x, default: y}}]}", "x", "5", "5"},
		{"(null|(str|int))", "{union: [id, {const: {view: x, default: y}}]}", "x", "z", "z"},
		{"(null|$u)", "{union: [{const: {view: 1, default: ~}}, {plunge: k}]}", "{k: [x]}", "5", "[x]"},
		{"($t|int)", "{union: [{const: {view: x, default: y}}, id]}", "x", "[z, [w]]", "[z, [w]]"},
		{"($t|int)", "{union: [{const: {view: x, default: y}}, id]}", "x", "5", "y"},
		{"[seq (str|{map a:str b:int})]", "{items: {union: [id, {project: {keep: [a], default: {b: 0}}}]}}", "[{a: x}, {a: x}, x]", "[{a: y, b: 1}, y, {a: y, b: 2}]", "[{a: x, b: 1}, {a: x, b: 0}, x]"},
	}.hold(t)
}

// P22.1: Fill: the literal goes where s has nothing.
func TestFill(t *testing.T) {
	rows{
		{"{map a?:str}", "{fill: {key: a, value: x}}", "{a: x}", "{}", "{}"},
		{"{map a?:str}", "{fill: {key: a, value: x}}", "{a: x}", "{a: x}", "{a: x}"},
		{"{map a?:str}", "{fill: {key: a, value: x}}", "{a: x}", "{a: y}", "{a: x}"},
		{"{map a?:str}", "{fill: {key: a, value: x}}", "{a: y}", "{}", "{a: y}"},
		{"{map a?:str}", "{fill: {key: a, value: x}}", "{a: y}", "{a: x}", "{a: y}"},
		{"{map a?:$u}", "{fill: {key: a, value: 1}}", "{a: '1'}", "{}", "{a: '1'}"},
		{"{map a?:$u}", "{fill: {key: a, value: 1}}", "{a: [x]}", "{}", "{a: [x]}"},
		{"{map a?:$u}", "{fill: {key: a, value: 1}}", "{a: 1}", "{a: [x]}", "{a: 1}"},
		{"{!m a:str b?:int *:any}", "{fill: {key: b, value: 0}}", "!m {a: x, b: 0, c: !leaf 1}", "!m {a: y, d: !leaf 2}", "!m {a: x, c: !leaf 1}"},
		{"{!m a:str b?:int *:any}", "{fill: {key: b, value: 0}}", "!m {a: x, b: 0, c: !leaf 1}", "!m {a: y, b: 7, d: !leaf 2}", "!m {a: x, b: 0, c: !leaf 1}"},
		{"{map a?:str b?:str}", "{fill: {key: b, value: x}}", "{a: x, b: x}", "{a: x}", "{a: x}"},
		{"{map a?:str b?:str}", "{fill: {key: b, value: x}}", "{b: x}", "{a: x}", "{}"},
	}.hold(t)
}
