package create_test

import (
	"testing"

	"stanhope/trial"
)

// P21.1: Id, Copy, Const.
func TestIdCopyConst(t *testing.T) {
	trial.Rows{
		{"str", "id", "x", "x"},
		{"null", "id", "~", "~"},
		{"!a", "id", "!a x", "!a x"},
		{"any", "id", "!leaf 3", "!leaf 3"},
		{"[seq any]", "id", "[!leaf 3, !leaf 1, !leaf 3]", "[!leaf 3, !leaf 1, !leaf 3]"},
		{"{!m a:$t *:any}", "id", "!m {a: [x, []], b: !leaf 0}", "!m {a: [x, []], b: !leaf 0}"},
		{"any", "copy", "!leaf 0", "!leaf 0"},
		{"dag", "copy", "!leaf 7", "!leaf 7"},
		{"$d", "copy", "!leaf 4095", "!leaf 4095"},
		{"str", "{const: {view: x, default: y}}", "x", "y"},
		{"str", "{const: {view: 1, default: ''}}", "1", "''"},
		{"$t", "{const: {view: !a '', default: []}}", "!a ''", "[]"},
		{"[!l any]", "{const: {view: ~, default: !l []}}", "~", "!l []"},
		{"{map a?:int}", "{const: {view: true, default: {}}}", "true", "{}"},
	}.Hold(t, sources)
}

// P21.1: Compose, Use.
func TestComposeUse(t *testing.T) {
	trial.Rows{
		{"str", "{compose: [id]}", "x", "x"},
		{"str", "{compose: [id, {compose: [id, id]}, id]}", "x", "x"},
		{"str", "{compose: [{plunge: a}]}", "{a: x}", "x"},
		{"str", "{compose: [{plunge: a}, {plunge: b}]}", "{b: {a: x}}", "x"},
		{"str", "{compose: [{plunge: a}, {plunge: b}, {hoist: b}]}", "{a: x}", "x"},
		{"str", "{compose: [{compose: [{plunge: a}, {plunge: b}]}, {compose: [{plunge: c}, {plunge: d}]}]}", "{d: {c: {b: {a: x}}}}", "x"},
		{"{map a:str b:int}", "{compose: [{rename: {a: c}}, {rename: {b: a}}, {rename: {c: b}}]}", "{a: 1, b: x}", "{a: x, b: 1}"},
		{"$e", "{compose: [{translate: {a: b, b: c}}, {translate: {b: c, c: b}}]}", "c", "a"},
		{"$e", "{compose: [{translate: {a: b, b: c}}, {translate: {b: c, c: b}}]}", "b", "b"},
		{"{map a:str b:str c:int}", "{compose: [{sink: {into: s, keys: [a, b]}}, {on: {s: {rename: {a: b, b: a}}}}, {lift: s}]}", "{a: x, b: y, c: 1}", "{a: y, b: x, c: 1}"},
		{"[seq (str|int|null)]", "{compose: [{filter: [.int, .str]}, {filter: [.int]}]}", "[1, 2]", "[1, 2]"},
		{"{map a:str b?:int}", "{compose: [{fill: {key: b, value: 5}}, {project: {keep: [b], default: {a: ''}}}, {hoist: b}]}", "5", "{a: ''}"},
		{"{map a:str b?:int}", "{compose: [{fill: {key: b, value: 5}}, {project: {keep: [b], default: {a: ''}}}, {hoist: b}]}", "6", "{a: '', b: 6}"},
		{"str", "{compose: [{const: {view: x, default: y}}, {const: {view: z, default: x}}]}", "z", "y"},
		{"[seq str]", "{compose: [{items: {plunge: a}}, {items: {plunge: b}}]}", "[{b: {a: x}}, {b: {a: y}}]", "[x, y]"},
		{"[seq str]", "{items: {compose: [{plunge: a}, {plunge: b}]}}", "[{b: {a: x}}, {b: {a: y}}]", "[x, y]"},
		{"any", "{use: twice}", "{b: {a: !leaf 2}}", "!leaf 2"},
		{"$d", "{use: twice}", "{b: {a: !leaf 2}}", "!leaf 2"},
		{"$s", "{use: name}", "x", "x"},
		{"str", "{compose: [{use: name}, {use: name}, {plunge: a}]}", "{a: x}", "x"},
		{"{map a:any b:$rec c?:$rec}", "{on: {a: {use: twice}, b: {use: fill}, c: {use: fill}}}", "{a: {b: {a: !leaf 0}}, b: {k: x, v: 0}}", "{a: !leaf 0, b: {k: x}}"},
		// Those that lead back to themselves.
		{"$t", "{use: grow}", "{k: x}", "x"},
		{"$t", "{use: grow}", "[]", "[]"},
		{"$t", "{use: grow}", "[{k: x}, [], [{k: y}, [{k: z}]], {k: x}]", "[x, [], [y, [z]], x]"},
		{"$g", "{use: deep}", "{n: x}", "{n: y}"},
		{"$g", "{use: deep}", "{n: x, s: [{n: x}, {n: x, s: []}, {n: x, s: [{n: x}]}]}", "{n: y, s: [{n: y}, {n: y, s: []}, {n: y, s: [{n: y}]}]}"},
		{"$k", "{use: rows}", "[{k: x, v: 0}, {k: y, v: 1}]", "[{k: x}, {k: y, v: 1}]"},
	}.Hold(t, sources)
}

// P21.1: Project, Rename, Hoist, Plunge.
func TestProjectRename(t *testing.T) {
	trial.Rows{
		{"{map}", "{project: {keep: []}}", "{}", "{}"},
		{"{map a:str}", "{project: {keep: [], default: {a: x}}}", "{}", "{a: x}"},
		{"{map a:str}", "{project: {keep: [a]}}", "{a: y}", "{a: y}"},
		{"{!m a:str b?:int}", "{project: {keep: [a]}}", "!m {a: x}", "!m {a: x}"},
		{"{map a:str b?:int}", "{project: {keep: [a, b]}}", "{a: x}", "{a: x}"},
		{"{map a:str b?:int}", "{project: {keep: [b], default: {a: ''}}}", "{}", "{a: ''}"},
		{"{map a:str b?:int}", "{project: {keep: [b], default: {a: ''}}}", "{b: 1}", "{a: '', b: 1}"},
		{"{map a:str b?:int *:any}", "{project: {keep: [a]}}", "{a: x}", "{a: x}"},
		{"{!m a:str b:[!l any] c:{!n d?:any} e:null f:$u}", "{project: {keep: [a], default: {b: !l [], c: !n {}, e: ~, f: 7}}}", "!m {a: x}", "!m {a: x, b: !l [], c: !n {}, e: ~, f: 7}"},
		{"{map '':str ' ':str}", "{project: {keep: [''], default: {' ': x}}}", "{'': y}", "{'': y, ' ': x}"},
		{"{map a:str b:any c:str}", "{project: {keep: [b], default: {a: '', c: z}}}", "{b: !leaf 4}", "{a: '', b: !leaf 4, c: z}"},

		{"{map a:str}", "{rename: {a: b}}", "{b: x}", "{a: x}"},
		{"{map a:str}", "{rename: {a: a}}", "{a: x}", "{a: x}"},
		{"{map a?:str b:int}", "{rename: {a: c}}", "{b: 1}", "{b: 1}"},
		{"{!m a?:str b:int}", "{rename: {a: c}}", "!m {b: 1, c: x}", "!m {a: x, b: 1}"},
		{"{map a:str b:str c:str}", "{rename: {a: b, b: c, c: a}}", "{a: z, b: x, c: y}", "{a: x, b: y, c: z}"},
		{"{map a?:str b?:str}", "{rename: {a: b, b: a}}", "{b: x}", "{a: x}"},
		{"{map a:str b:[seq any]}", "{rename: {a: é, b: ''}}", "{'': [!leaf 1], é: x}", "{a: x, b: [!leaf 1]}"},

		{"{map a:str}", "{hoist: a}", "x", "{a: x}"},
		// Of the Source's Tag.
		{"{!m a:any}", "{hoist: a}", "!leaf 5", "!m {a: !leaf 5}"},
		{"$o", "{hoist: a}", "!leaf 5", "!o {a: !leaf 5}"},
		{"$in", "{compose: [{project: {keep: [x]}}, {hoist: x}]}", "x", "!in {x: x}"},
		{"{map '':[seq {map a:str}]}", "{hoist: ''}", "[{a: x}]", "{'': [{a: x}]}"},
		{"str", "{plunge: a}", "{a: x}", "x"},
		{"any", "{plunge: ''}", "{'': !leaf 5}", "!leaf 5"},
		{"{!m a:str}", "{plunge: a}", "{a: !m {a: x}}", "!m {a: x}"},
		{"[!l str]", "{plunge: a b}", "{a b: !l [x]}", "!l [x]"},
	}.Hold(t, sources)
}

// P21.1: Lift, Sink.
func TestLiftSink(t *testing.T) {
	trial.Rows{
		{"{map a:{map}}", "{lift: a}", "{}", "{a: {}}"},
		{"{map a:{map b:str}}", "{lift: a}", "{b: x}", "{a: {b: x}}"},
		{"{map a:{map a:str}}", "{lift: a}", "{a: x}", "{a: {a: x}}"},
		{"{map a:{map a:{map a:str}}}", "{lift: a}", "{a: {a: x}}", "{a: {a: {a: x}}}"},
		{"{map a:str b:{map c:int d?:any} e:str}", "{lift: b}", "{a: x, c: 1, e: z}", "{a: x, b: {c: 1}, e: z}"},
		{"{map a:str b:{map c:int d?:any} e:str}", "{lift: b}", "{a: x, c: 1, d: !leaf 2, e: z}", "{a: x, b: {c: 1, d: !leaf 2}, e: z}"},
		{"{map b:{map a:str z:str} m:int}", "{lift: b}", "{a: x, m: 1, z: y}", "{b: {a: x, z: y}, m: 1}"},
		{"{map b:{map a?:str z?:str} m?:int}", "{lift: b}", "{}", "{b: {}}"},
		{"{map b:{map a?:str z?:str} m?:int}", "{lift: b}", "{m: 1}", "{b: {}, m: 1}"},
		// Of the Tag of the type behind Name.
		{"{!m a:{!n b:str}}", "{lift: a}", "!m {b: x}", "!m {a: !n {b: x}}"},
		{"$m", "{lift: a}", "!m {b: y, x: x, y: 1}", "!m {a: !in {x: x, y: 1}, b: y}"},
		{"$m", "{lift: a}", "!m {x: x}", "!m {a: !in {x: x}}"},
		{"{!m a:$rec}", "{lift: a}", "!m {k: x}", "!m {a: {k: x}}"},

		{"{map a:str}", "{sink: {into: b, keys: [a]}}", "{b: {a: x}}", "{a: x}"},
		{"{map a:str}", "{sink: {into: a, keys: [a]}}", "{a: {a: x}}", "{a: x}"},
		{"{map a:str b:int}", "{sink: {into: a, keys: [a]}}", "{a: {a: x}, b: 1}", "{a: x, b: 1}"},
		{"{map a:str b:int}", "{sink: {into: a, keys: [a, b]}}", "{a: {a: x, b: 1}}", "{a: x, b: 1}"},
		{"{map a:str b:int c:any}", "{sink: {into: z, keys: [a, c]}}", "{b: 1, z: {a: x, c: !leaf 0}}", "{a: x, b: 1, c: !leaf 0}"},
		{"{map a?:str b:int}", "{sink: {into: c, keys: [a]}}", "{b: 1, c: {}}", "{b: 1}"},
		{"{map a?:str b:int c?:str}", "{sink: {into: d, keys: [a, c]}}", "{b: 1, d: {c: x}}", "{b: 1, c: x}"},
		{"{map a?:str b?:int}", "{sink: {into: '', keys: [a, b]}}", "{'': {}}", "{}"},
		{"{!m a:str b:int}", "{sink: {into: c, keys: [b]}}", "!m {a: x, c: {b: 1}}", "!m {a: x, b: 1}"},
		{"$m", "{sink: {into: c, keys: [a]}}", "!m {b: y, c: {a: !in {x: x}}}", "!m {a: !in {x: x}, b: y}"},
	}.Hold(t, sources)
}

// P21.1: Filter, Map, Items, Keyed, On.
func TestParts(t *testing.T) {
	trial.Rows{
		{"[seq (str|int|[seq str])]", "{filter: [.int]}", "[]", "[]"},
		{"[seq (str|int|[seq str])]", "{filter: [.int]}", "[1, 2, 1]", "[1, 2, 1]"},
		{"[!l $u]", "{filter: [.str, '[seq']}", "!l [x, [y], z]", "!l [x, [y], z]"},
		{"{!m *:$u}", "{filter: [.int]}", "!m {a: 1, c: 2}", "!m {a: 1, c: 2}"},
		{"{map *:(str|{map *:any})}", "{filter: ['{map']}", "{a: {b: !leaf 1}}", "{a: {b: !leaf 1}}"},

		{"{map *:str}", "{map: {plunge: k}}", "{}", "{}"},
		{"{map *:str}", "{map: {plunge: k}}", "{'': {k: z}, a: {k: x}, b: {k: y}}", "{'': z, a: x, b: y}"},
		{"{!m *:{map *:str}}", "{map: {map: {plunge: k}}}", "!m {a: {b: {k: x}}, c: {}}", "!m {a: {b: x}, c: {}}"},
		{"{map *:any}", "{map: copy}", "{a: !leaf 0, b: !leaf 0}", "{a: !leaf 0, b: !leaf 0}"},
		{"[seq str]", "{items: {plunge: k}}", "[]", "[]"},
		{"[seq str]", "{items: {plunge: k}}", "[{k: x}, {k: y}, {k: x}]", "[x, y, x]"},
		{"[!l [seq any]]", "{items: {items: {plunge: k}}}", "!l [[{k: !leaf 1}], [], [{k: !leaf 2}, {k: !leaf 1}]]", "!l [[!leaf 1], [], [!leaf 2, !leaf 1]]"},
		{"[seq {map a:str b:int}]", "{items: {project: {keep: [a], default: {b: 0}}}}", "[{a: x}, {a: y}]", "[{a: x, b: 0}, {a: y, b: 0}]"},
		{"[seq by k {map k:str v:int}]", "{keyed: {project: {keep: [k], default: {v: 0}}}}", "[{k: x}, {k: y}]", "[{k: x, v: 0}, {k: y, v: 0}]"},
		{"[!l by k $rec]", "{keyed: {use: fill}}", "!l [{k: x, v: 1}, {k: y, v: 0}]", "!l [{k: x, v: 1}, {k: y}]"},
		{"$k", "{keyed: id}", "[]", "[]"},
		{"$k", "{keyed: {compose: [{rename: {v: w}}, {fill: {key: w, value: 3}}]}}", "[{k: b, w: 3}, {k: a, w: 1}]", "[{k: b}, {k: a, v: 1}]"},
		{"{map a:str b:int}", "{on: {a: {plunge: k}}}", "{a: {k: x}, b: 1}", "{a: x, b: 1}"},
		{"{map a:str b:int}", "{on: {a: {plunge: k}, b: {plunge: l}}}", "{a: {k: x}, b: {l: 1}}", "{a: x, b: 1}"},
		{"{!m a?:str b?:int c?:any}", "{on: {a: {plunge: k}, b: {plunge: l}}}", "!m {b: {l: 1}, c: !leaf 0}", "!m {b: 1, c: !leaf 0}"},
		{"{map a?:str}", "{on: {a: {plunge: k}}}", "{}", "{}"},
		{"{map a:str *:any}", "{on: {a: {const: {view: 1, default: ''}}}}", "{a: 1, b: !leaf 1, c: !leaf 2}", "{a: '', b: !leaf 1, c: !leaf 2}"},
		{"{map '':str a:str}", "{on: {'': {plunge: k}}}", "{'': {k: x}, a: y}", "{'': x, a: y}"},
		{"{map a:str b:str c:str d:str}", "{on: {b: {plunge: k}, d: {const: {view: 1, default: z}}}}", "{a: x, b: {k: x}, c: x, d: 1}", "{a: x, b: x, c: x, d: z}"},
	}.Hold(t, sources)
}

// P21.1: Union: by the View's Items.
func TestUnion(t *testing.T) {
	const u = "{union: [{plunge: k}, {const: {view: true, default: 0}}, {items: {plunge: k}}]}"
	trial.Rows{
		{"$u", u, "{k: x}", "x"},
		{"$u", u, "true", "0"},
		{"$u", u, "[{k: x}, {k: y}]", "[x, y]"},
		{"$u", u, "[]", "[]"},
		{"(int|str)", "{union: [id, {plunge: k}]}", "1", "1"},
		{"(int|str)", "{union: [id, {plunge: k}]}", "{k: x}", "x"},
		// What has the head of the Source's other Item.
		{"(int|str)", "{union: [{const: {view: a, default: 7}}, {const: {view: 1, default: b}}]}", "a", "7"},
		{"(int|str)", "{union: [{const: {view: a, default: 7}}, {const: {view: 1, default: b}}]}", "1", "b"},
		{"([seq str]|{map k:[seq str]})", "{union: [{plunge: k}, {hoist: k}]}", "{k: [x]}", "[x]"},
		{"([seq str]|{map k:[seq str]})", "{union: [{plunge: k}, {hoist: k}]}", "[x]", "{k: [x]}"},
		{"(!a|[!a any]|{!a *:any})", "{union: [{plunge: k}, id, {map: {plunge: l}}]}", "{k: !a x}", "!a x"},
		{"(!a|[!a any]|{!a *:any})", "{union: [{plunge: k}, id, {map: {plunge: l}}]}", "!a [!leaf 1]", "!a [!leaf 1]"},
		{"(!a|[!a any]|{!a *:any})", "{union: [{plunge: k}, id, {map: {plunge: l}}]}", "!a {b: {l: !leaf 1}}", "!a {b: !leaf 1}"},
		// An Item that is a Union itself, or a Name of one.
		{"(null|(str|int))", "{union: [id, {union: [{plunge: k}, id]}]}", "{k: x}", "x"},
		{"(null|(str|int))", "{union: [id, {union: [{plunge: k}, id]}]}", "1", "1"},
		{"(null|(str|int))", "{union: [id, {plunge: k}]}", "{k: 1}", "1"},
		{"(null|$u)", "{union: [{const: {view: 1, default: ~}}, {plunge: k}]}", "1", "~"},
		{"(null|$u)", "{union: [{const: {view: !a '', default: ~}}, id]}", "[x]", "[x]"},
	}.Hold(t, sources)
}

// P21.1: Fill, Translate.
func TestFillTranslate(t *testing.T) {
	trial.Rows{
		{"{map a?:str}", "{fill: {key: a, value: x}}", "{a: x}", "{}"},
		{"{map a?:str}", "{fill: {key: a, value: x}}", "{a: y}", "{a: y}"},
		{"{map a?:str}", "{fill: {key: a, value: x}}", "{a: ''}", "{a: ''}"},
		{"{!m a:str b?:int c:any}", "{fill: {key: b, value: 0}}", "!m {a: x, b: 0, c: !leaf 1}", "!m {a: x, c: !leaf 1}"},
		{"{!m a:str b?:int c:any}", "{fill: {key: b, value: 0}}", "!m {a: x, b: 1, c: !leaf 1}", "!m {a: x, b: 1, c: !leaf 1}"},
		{"{map a?:str b?:int *:any}", "{fill: {key: b, value: 0}}", "{b: 0, c: !leaf 1}", "{c: !leaf 1}"},
		// Only the literal itself.
		{"{map a?:$u}", "{fill: {key: a, value: 1}}", "{a: '1'}", "{a: '1'}"},
		{"{map a?:$u}", "{fill: {key: a, value: '1'}}", "{a: 1}", "{a: 1}"},
		{"{map a?:$u}", "{fill: {key: a, value: '1'}}", "{a: ['1']}", "{a: ['1']}"},
		{"{map a?:$u}", "{fill: {key: a, value: '1'}}", "{a: '1'}", "{}"},
		{"{map a?:(!a|str)}", "{fill: {key: a, value: !a x}}", "{a: x}", "{a: x}"},
		{"{map a?:str b?:str}", "{compose: [{fill: {key: a, value: x}}, {fill: {key: b, value: y}}]}", "{a: x, b: y}", "{}"},
		{"{map a?:str b?:str}", "{compose: [{fill: {key: a, value: x}}, {fill: {key: b, value: y}}]}", "{a: y, b: y}", "{a: y}"},
		{"$e", "{translate: {a: x, b: y}}", "x", "a"},
		{"$e", "{translate: {a: x, b: y}}", "y", "b"},
		{"$e", "{translate: {a: b, b: a}}", "b", "a"},
		{"$e", "{translate: {a: z, b: ''}}", "''", "b"},
		{"$e", "{translate: {a: '1', b: '~'}}", "'1'", "a"},
		{"<int '1' '2' '3'>", "{translate: {'1': '3', '2': '-7', '3': '0'}}", "3", "1"},
		{"<int '1' '2' '3'>", "{translate: {'1': '3', '2': '-7', '3': '0'}}", "-7", "2"},
		{"<!a '' 'x'>", "{translate: {'': x, x: ''}}", "!a x", "!a ''"},
		{"<bool 'false' 'true'>", "{translate: {'false': 'true', 'true': 'false'}}", "true", "false"},
	}.Hold(t, sources)
}
