package get_test

import (
	"testing"

	"stanhope/trial"
)

// P20.1: Id, Copy, Const.
func TestIdCopyConst(t *testing.T) {
	trial.Rows{
		{"str", "id", "x", "x"},
		{"str", "id", "''", "''"},
		{"null", "id", "~", "~"},
		{"!a", "id", "!a x", "!a x"},
		{"any", "id", "!leaf 3", "!leaf 3"},
		{"[seq any]", "id", "[!leaf 3, !leaf 1, !leaf 3]", "[!leaf 3, !leaf 1, !leaf 3]"},
		{"{!m a:$t *:any}", "id", "!m {a: [x, []], b: !leaf 0}", "!m {a: [x, []], b: !leaf 0}"},
		{"$k", "id", "[{k: x}, {k: y, v: 1}]", "[{k: x}, {k: y, v: 1}]"},
		{"any", "copy", "!leaf 0", "!leaf 0"},
		{"dag", "copy", "!leaf 7", "!leaf 7"},
		{"$d", "copy", "!leaf 4095", "!leaf 4095"},
		{"str", "{const: {view: x, default: y}}", "z", "x"},
		{"str", "{const: {view: 1, default: y}}", "y", "1"},
		{"$t", "{const: {view: !a '', default: y}}", "[x, [y]]", "!a ''"},
		{"[seq any]", "{const: {view: ~, default: []}}", "[!leaf 1, !leaf 2]", "~"},
		{"{map a?:int}", "{const: {view: true, default: {}}}", "{a: 1}", "true"},
	}.Hold(t, views)
}

// P20.1: Compose, Use.
func TestComposeUse(t *testing.T) {
	trial.Rows{
		{"str", "{compose: [id]}", "x", "x"},
		{"str", "{compose: [id, {compose: [id, id]}, id]}", "x", "x"},
		{"str", "{compose: [{plunge: a}]}", "x", "{a: x}"},
		{"str", "{compose: [{plunge: a}, {plunge: b}]}", "x", "{b: {a: x}}"},
		{"str", "{compose: [{plunge: a}, {plunge: b}, {hoist: b}]}", "x", "{a: x}"},
		{"str", "{compose: [{compose: [{plunge: a}, {plunge: b}]}, {compose: [{plunge: c}, {plunge: d}]}]}", "x", "{d: {c: {b: {a: x}}}}"},
		{"{map a:str b:int}", "{compose: [{rename: {a: c}}, {rename: {b: a}}, {rename: {c: b}}]}", "{a: x, b: 1}", "{a: 1, b: x}"},
		{"$e", "{compose: [{translate: {a: b, b: c}}, {translate: {b: a, c: b}}]}", "a", "a"},
		{"$e", "{compose: [{translate: {a: b, b: c}}, {translate: {b: c, c: b}}]}", "a", "c"},
		{"{map a:str b:str c:int}", "{compose: [{sink: {into: s, keys: [a, b]}}, {on: {s: {rename: {a: b, b: a}}}}, {lift: s}]}", "{a: x, b: y, c: 1}", "{a: y, b: x, c: 1}"},
		{"[seq (str|int|null)]", "{compose: [{filter: [.int, .str]}, {filter: [.int]}]}", "[x, 1, ~, y, 2]", "[1, 2]"},
		{"{map a:str b?:int}", "{compose: [{fill: {key: b, value: 5}}, {project: {keep: [b], default: {a: ''}}}, {hoist: b}]}", "{a: x}", "5"},
		{"str", "{compose: [{const: {view: x, default: y}}, {const: {view: z, default: x}}]}", "q", "z"},
		{"[seq str]", "{compose: [{items: {plunge: a}}, {items: {plunge: b}}]}", "[x, y]", "[{b: {a: x}}, {b: {a: y}}]"},
		{"[seq str]", "{items: {compose: [{plunge: a}, {plunge: b}]}}", "[x, y]", "[{b: {a: x}}, {b: {a: y}}]"},
		{"any", "{use: twice}", "!leaf 2", "{b: {a: !leaf 2}}"},
		{"$d", "{use: twice}", "!leaf 2", "{b: {a: !leaf 2}}"},
		{"$s", "{use: name}", "x", "x"},
		{"str", "{compose: [{use: name}, {use: name}, {plunge: a}]}", "x", "{a: x}"},
		{"{map a:any b:$rec c?:$rec}", "{on: {a: {use: twice}, b: {use: fill}, c: {use: fill}}}", "{a: !leaf 0, b: {k: x}}", "{a: {b: {a: !leaf 0}}, b: {k: x, v: 0}}"},
		// Those that lead back to themselves.
		{"$t", "{use: grow}", "x", "{k: x}"},
		{"$t", "{use: grow}", "[]", "[]"},
		{"$t", "{use: grow}", "[x, [], [y, [z]], x]", "[{k: x}, [], [{k: y}, [{k: z}]], {k: x}]"},
		{"$g", "{use: deep}", "{n: a}", "{n: x}"},
		{"$g", "{use: deep}", "{n: a, s: [{n: b}, {n: c, s: []}, {n: d, s: [{n: e}]}]}", "{n: x, s: [{n: x}, {n: x, s: []}, {n: x, s: [{n: x}]}]}"},
		{"$k", "{use: rows}", "[{k: x}, {k: y, v: 1}]", "[{k: x, v: 0}, {k: y, v: 1}]"},
	}.Hold(t, views)
}

// P20.1: Project, Rename, Hoist, Plunge.
func TestProjectRename(t *testing.T) {
	trial.Rows{
		{"{map}", "{project: {keep: []}}", "{}", "{}"},
		{"{map a:str}", "{project: {keep: [], default: {a: x}}}", "{a: y}", "{}"},
		{"{map a:str}", "{project: {keep: [a]}}", "{a: y}", "{a: y}"},
		{"{!m a:str b?:int}", "{project: {keep: [a]}}", "!m {a: x, b: 1}", "!m {a: x}"},
		{"{map a:str b?:int}", "{project: {keep: [a, b]}}", "{a: x}", "{a: x}"},
		{"{map a:str b?:int}", "{project: {keep: [a, b]}}", "{a: x, b: 1}", "{a: x, b: 1}"},
		{"{map a:str b?:int}", "{project: {keep: [b], default: {a: ''}}}", "{a: x}", "{}"},
		{"{map a:str b?:int *:any}", "{project: {keep: [a]}}", "{a: x, b: 1, c: !leaf 0, d: !leaf 1}", "{a: x}"},
		{"{map '':str ' ':str}", "{project: {keep: [''], default: {' ': x}}}", "{'': y, ' ': z}", "{'': y}"},
		{"{map a:[seq any] b:any c:any}", "{compose: [{project: {keep: [a, b, c]}}]}", "{a: [!leaf 0, !leaf 1], b: !leaf 2, c: !leaf 0}", "{a: [!leaf 0, !leaf 1], b: !leaf 2, c: !leaf 0}"},

		{"{map a:str}", "{rename: {a: b}}", "{a: x}", "{b: x}"},
		{"{map a:str}", "{rename: {a: a}}", "{a: x}", "{a: x}"},
		{"{map a?:str b:int}", "{rename: {a: c}}", "{b: 1}", "{b: 1}"},
		{"{!m a?:str b:int}", "{rename: {a: c}}", "!m {a: x, b: 1}", "!m {b: 1, c: x}"},
		{"{map a:str b:str c:str}", "{rename: {a: b, b: c, c: a}}", "{a: x, b: y, c: z}", "{a: z, b: x, c: y}"},
		{"{map a?:str b?:str}", "{rename: {a: b, b: a}}", "{a: x}", "{b: x}"},
		{"{map a?:str b?:str}", "{rename: {a: b, b: a}}", "{b: x}", "{a: x}"},
		{"{map a:str b:[seq any]}", "{rename: {a: é, b: ''}}", "{a: x, b: [!leaf 1]}", "{'': [!leaf 1], é: x}"},

		{"{map a:str}", "{hoist: a}", "{a: x}", "x"},
		{"{!m a:any}", "{hoist: a}", "!m {a: !leaf 5}", "!leaf 5"},
		{"{map '':[seq {map a:str}]}", "{hoist: ''}", "{'': [{a: x}]}", "[{a: x}]"},
		{"str", "{plunge: a}", "x", "{a: x}"},
		{"any", "{plunge: ''}", "!leaf 5", "{'': !leaf 5}"},
		{"{!m a:str}", "{plunge: a}", "!m {a: x}", "{a: !m {a: x}}"},
		{"[!l str]", "{plunge: a b}", "!l [x]", "{a b: !l [x]}"},
	}.Hold(t, views)
}

// P20.1: Lift, Sink.
func TestLiftSink(t *testing.T) {
	trial.Rows{
		{"{map a:{map}}", "{lift: a}", "{a: {}}", "{}"},
		{"{map a:{map b:str}}", "{lift: a}", "{a: {b: x}}", "{b: x}"},
		{"{map a:{map a:str}}", "{lift: a}", "{a: {a: x}}", "{a: x}"},
		{"{map a:{map a:{map a:str}}}", "{lift: a}", "{a: {a: {a: x}}}", "{a: {a: x}}"},
		{"{map a:str b:{map c:int d?:any} e:str}", "{lift: b}", "{a: x, b: {c: 1}, e: z}", "{a: x, c: 1, e: z}"},
		{"{map a:str b:{map c:int d?:any} e:str}", "{lift: b}", "{a: x, b: {c: 1, d: !leaf 2}, e: z}", "{a: x, c: 1, d: !leaf 2, e: z}"},
		{"{map b:{map a:str z:str} m:int}", "{lift: b}", "{b: {a: x, z: y}, m: 1}", "{a: x, m: 1, z: y}"},
		// The Tag is v's.
		{"{!m a:{!n b:str}}", "{lift: a}", "!m {a: !n {b: x}}", "!m {b: x}"},
		{"{map a:$in b:str}", "{lift: a}", "{a: !in {x: x, y: 1}, b: y}", "{b: y, x: x, y: 1}"},
		{"{!m a:$rec}", "{lift: a}", "!m {a: {k: x}}", "!m {k: x}"},

		{"{map a:str}", "{sink: {into: b, keys: [a]}}", "{a: x}", "{b: {a: x}}"},
		{"{map a:str}", "{sink: {into: a, keys: [a]}}", "{a: x}", "{a: {a: x}}"},
		{"{map a:str b:int}", "{sink: {into: a, keys: [a]}}", "{a: x, b: 1}", "{a: {a: x}, b: 1}"},
		{"{map a:str b:int}", "{sink: {into: a, keys: [a, b]}}", "{a: x, b: 1}", "{a: {a: x, b: 1}}"},
		{"{map a:str b:int c:any}", "{sink: {into: z, keys: [a, c]}}", "{a: x, b: 1, c: !leaf 0}", "{b: 1, z: {a: x, c: !leaf 0}}"},
		// Nothing stands behind a key that isn't there, but behind Name the mapping does.
		{"{map a?:str b:int}", "{sink: {into: c, keys: [a]}}", "{b: 1}", "{b: 1, c: {}}"},
		{"{map a?:str b:int c?:str}", "{sink: {into: d, keys: [a, c]}}", "{b: 1, c: x}", "{b: 1, d: {c: x}}"},
		{"{map a?:str b?:int}", "{sink: {into: '', keys: [a, b]}}", "{}", "{'': {}}"},
		// Of the Tag map, whatever v's is.
		{"{!m a:str b:int}", "{sink: {into: c, keys: [b]}}", "!m {a: x, b: 1}", "!m {a: x, c: {b: 1}}"},
		{"{!m a:{!n b:str}}", "{sink: {into: c, keys: [a]}}", "!m {a: !n {b: x}}", "!m {c: {a: !n {b: x}}}"},
	}.Hold(t, views)
}

// P20.1: Filter.
func TestFilter(t *testing.T) {
	const l, m = "[seq (str|int|[seq str]|{map *:any})]", "{map *:(str|int|[seq str]|{map *:any})}"
	trial.Rows{
		{l, "{filter: [.int]}", "[]", "[]"},
		{l, "{filter: [.int]}", "[x]", "[]"},
		{l, "{filter: [.int]}", "[1]", "[1]"},
		{l, "{filter: [.int]}", "[1, x, 2, [x], 1, {a: !leaf 0}, '3']", "[1, 2, 1]"},
		{l, "{filter: [.str]}", "[1, x, 2, [x], 1, {a: !leaf 0}, '3']", "[x, '3']"},
		{l, "{filter: ['[seq']}", "[1, x, [y, z], [], {}]", "[[y, z], []]"},
		{l, "{filter: ['{map']}", "[1, x, [y, z], {a: !leaf 3}, {}]", "[{a: !leaf 3}, {}]"},
		{l, "{filter: [.int, .str, '[seq']}", "[{}, 2, [x], y, {a: !leaf 0}, 1]", "[2, [x], y, 1]"},
		{"[!l (str|!a|!b)]", "{filter: ['.!a']}", "!l [x, !a x, !b x, !a y]", "!l [!a x, !a y]"},
		{"[seq (str|[!a any]|[seq any])]", "{filter: ['[!a']}", "[[!leaf 0], !a [!leaf 1], x, !a []]", "[!a [!leaf 1], !a []]"},
		{"[seq (bool|$u)]", "{filter: [.int, .str, '[seq']}", "[true, x, [y], false, 1]", "[x, [y], 1]"},
		{"[seq $u]", "{filter: [.int]}", "[x, 1, [y], 2]", "[1, 2]"},
		{m, "{filter: [.int]}", "{}", "{}"},
		{m, "{filter: [.int]}", "{a: x}", "{}"},
		{m, "{filter: [.int]}", "{a: 1, b: x, c: 2, d: [x], e: {}}", "{a: 1, c: 2}"},
		{m, "{filter: [.str, '{map']}", "{'': {}, a: 1, b: x, c: 2, d: [x], é: {z: !leaf 1}}", "{'': {}, b: x, é: {z: !leaf 1}}"},
		{"{!m *:(<str 'a'>|<int '1'>)}", "{filter: [.str]}", "!m {a: a, b: 1, c: a}", "!m {a: a, c: a}"},
	}.Hold(t, views)
}

// P20.1: Map, Items, Keyed, On.
func TestParts(t *testing.T) {
	trial.Rows{
		{"{map *:str}", "{map: {plunge: k}}", "{}", "{}"},
		{"{map *:str}", "{map: {plunge: k}}", "{a: x, b: y, '': z}", "{'': {k: z}, a: {k: x}, b: {k: y}}"},
		{"{!m *:{map *:str}}", "{map: {map: {plunge: k}}}", "!m {a: {b: x}, c: {}}", "!m {a: {b: {k: x}}, c: {}}"},
		{"{map *:any}", "{map: copy}", "{a: !leaf 0, b: !leaf 0}", "{a: !leaf 0, b: !leaf 0}"},
		{"[seq str]", "{items: {plunge: k}}", "[]", "[]"},
		{"[seq str]", "{items: {plunge: k}}", "[x, y, x]", "[{k: x}, {k: y}, {k: x}]"},
		{"[!l [seq any]]", "{items: {items: {plunge: k}}}", "!l [[!leaf 1], [], [!leaf 2, !leaf 1]]", "!l [[{k: !leaf 1}], [], [{k: !leaf 2}, {k: !leaf 1}]]"},
		{"[seq {map a:str b:int}]", "{items: {project: {keep: [a], default: {b: 0}}}}", "[{a: x, b: 1}, {a: y, b: 2}]", "[{a: x}, {a: y}]"},
		{"[seq by k {map k:str v:int}]", "{keyed: {project: {keep: [k], default: {v: 0}}}}", "[{k: x, v: 1}, {k: y, v: 2}]", "[{k: x}, {k: y}]"},
		{"[!l by k $rec]", "{keyed: {use: fill}}", "!l [{k: x, v: 1}, {k: y}]", "!l [{k: x, v: 1}, {k: y, v: 0}]"},
		{"$k", "{keyed: id}", "[]", "[]"},
		{"$k", "{keyed: {compose: [{rename: {v: w}}, {fill: {key: w, value: 3}}]}}", "[{k: b}, {k: a, v: 1}]", "[{k: b, w: 3}, {k: a, w: 1}]"},
		{"{map a:str b:int}", "{on: {a: {plunge: k}}}", "{a: x, b: 1}", "{a: {k: x}, b: 1}"},
		{"{map a:str b:int}", "{on: {a: {plunge: k}, b: {plunge: l}}}", "{a: x, b: 1}", "{a: {k: x}, b: {l: 1}}"},
		{"{!m a?:str b?:int c?:any}", "{on: {a: {plunge: k}, b: {plunge: l}}}", "!m {b: 1, c: !leaf 0}", "!m {b: {l: 1}, c: !leaf 0}"},
		{"{map a?:str}", "{on: {a: {plunge: k}}}", "{}", "{}"},
		{"{map a:str *:any}", "{on: {a: {const: {view: 1, default: ''}}}}", "{a: x, b: !leaf 1, c: !leaf 2}", "{a: 1, b: !leaf 1, c: !leaf 2}"},
		{"{map '':str a:str}", "{on: {'': {plunge: k}}}", "{'': x, a: y}", "{'': {k: x}, a: y}"},
		{"{map a:str b:str c:str d:str}", "{on: {b: {plunge: k}, d: {const: {view: 1, default: ''}}}}", "{a: x, b: x, c: x, d: x}", "{a: x, b: {k: x}, c: x, d: 1}"},
	}.Hold(t, views)
}

// P20.1: Union.
func TestUnion(t *testing.T) {
	const u = "{union: [{plunge: k}, {const: {view: true, default: 0}}, {items: {plunge: k}}]}"
	trial.Rows{
		{"$u", u, "x", "{k: x}"},
		{"$u", u, "'1'", "{k: '1'}"},
		{"$u", u, "1", "true"},
		{"$u", u, "[x, y]", "[{k: x}, {k: y}]"},
		{"$u", u, "[]", "[]"},
		{"(int|str)", "{union: [id, {plunge: k}]}", "1", "1"},
		{"(int|str)", "{union: [id, {plunge: k}]}", "x", "{k: x}"},
		{"(!a|[!a any]|{!a *:any})", "{union: [{plunge: k}, id, {map: {plunge: l}}]}", "!a x", "{k: !a x}"},
		{"(!a|[!a any]|{!a *:any})", "{union: [{plunge: k}, id, {map: {plunge: l}}]}", "!a [!leaf 1]", "!a [!leaf 1]"},
		{"(!a|[!a any]|{!a *:any})", "{union: [{plunge: k}, id, {map: {plunge: l}}]}", "!a {b: !leaf 1}", "!a {b: {l: !leaf 1}}"},
		// An Item that is a Union itself, or a Name of one.
		{"(null|(str|int))", "{union: [id, {union: [{plunge: k}, id]}]}", "x", "{k: x}"},
		{"(null|(str|int))", "{union: [id, {union: [{plunge: k}, id]}]}", "1", "1"},
		{"(null|(str|int))", "{union: [id, {plunge: k}]}", "1", "{k: 1}"},
		{"(null|$u)", "{union: [{const: {view: 1, default: ~}}, {plunge: k}]}", "~", "1"},
		{"(null|$u)", "{union: [{const: {view: 1, default: ~}}, {plunge: k}]}", "[x]", "{k: [x]}"},
		{"(<str 'a'>|<int '1'>)", "{union: [{translate: {a: b}}, {translate: {'1': '2'}}]}", "a", "b"},
		{"(<str 'a'>|<int '1'>)", "{union: [{translate: {a: b}}, {translate: {'1': '2'}}]}", "1", "2"},
	}.Hold(t, views)
}

// P20.1: Fill, Translate.
func TestFillTranslate(t *testing.T) {
	trial.Rows{
		{"{map a?:str}", "{fill: {key: a, value: x}}", "{}", "{a: x}"},
		{"{map a?:str}", "{fill: {key: a, value: x}}", "{a: y}", "{a: y}"},
		{"{map a?:str}", "{fill: {key: a, value: x}}", "{a: x}", "{a: x}"},
		{"{map a?:str}", "{fill: {key: a, value: x}}", "{a: ''}", "{a: ''}"},
		{"{!m a:str b?:int c:any}", "{fill: {key: b, value: 0}}", "!m {a: x, c: !leaf 1}", "!m {a: x, b: 0, c: !leaf 1}"},
		{"{map a?:str b?:int *:any}", "{fill: {key: b, value: 0}}", "{c: !leaf 1}", "{b: 0, c: !leaf 1}"},
		{"{map '':str b?:$u}", "{fill: {key: b, value: 0}}", "{'': x}", "{'': x, b: 0}"},
		{"{map '':str b?:$u}", "{fill: {key: b, value: 0}}", "{'': x, b: [y]}", "{'': x, b: [y]}"},
		{"{map a?:str b?:str}", "{compose: [{fill: {key: a, value: x}}, {fill: {key: b, value: y}}]}", "{}", "{a: x, b: y}"},
		{"$e", "{translate: {a: x, b: y}}", "a", "x"},
		{"$e", "{translate: {a: x, b: y}}", "b", "y"},
		{"$e", "{translate: {a: b, b: a}}", "b", "a"},
		{"$e", "{translate: {a: z, b: ''}}", "b", "''"},
		{"$e", "{translate: {a: '1', b: '~'}}", "a", "'1'"},
		{"<int '1' '2' '3'>", "{translate: {'1': '3', '2': '-7', '3': '0'}}", "1", "3"},
		{"<int '1' '2' '3'>", "{translate: {'1': '3', '2': '-7', '3': '0'}}", "2", "-7"},
		{"<!a '' 'x'>", "{translate: {'': x, x: ''}}", "!a x", "!a ''"},
		{"<bool 'false' 'true'>", "{translate: {'false': 'true', 'true': 'false'}}", "true", "false"},
	}.Hold(t, views)
}
