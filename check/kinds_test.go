package check_test

import (
	"strings"
	"testing"

	"stanhope/api"
	"stanhope/carve"
	"stanhope/check"
	"stanhope/grind"
	"stanhope/lens"
	"stanhope/spell"
	"stanhope/typ"
	"stanhope/value"
)

// P18.1: Id, Copy.
func TestIdCopy(t *testing.T) {
	leads{
		{"str", "id", "str"},
		{"any", "id", "any"},
		{"$rec", "id", "$rec"},
		{"[seq by k $rec]", "id", "[seq by k $rec]"},
		{"{map a:(str|int) *:dag}", "id", "{map a:(str|int) *:dag}"},
		{"any", "copy", "any"},
		{"dag", "copy", "dag"},
		{"$any", "copy", "$any"},
	}.hold(t, defs)
	wrongs{
		{"str", "^copy"},
		{"{map}", "^copy"},
		{"{map *:any}", "^copy"},
		{"[seq any]", "^copy"},
		{"[seq by k {map k:str}]", "^copy"},
		{"(str|int)", "^copy"},
		{`<str "a">`, "^copy"},
		{"$s", "^copy"},
		{"$t", "^copy"},
	}.hold(t, defs)
}

// P18.1: Const.
func TestConst(t *testing.T) {
	leads{
		{"str", "{const: {view: x, default: y}}", `<str "x">`},
		{"str", "{const: {view: x, default: ''}}", `<str "x">`},
		{"$b", "{const: {view: 1, default: y}}", `<int "1">`},
		{"int", "{const: {view: ~, default: 5}}", `<null "">`},
		{"null", "{const: {view: true, default: ~}}", `<bool "true">`},
		{"!a", "{const: {view: !b x, default: !a y}}", `<!b "x">`},
		{"<str 'a' 'b'>", "{const: {view: c, default: b}}", `<str "c">`},
		{"{map}", "{const: {view: x, default: {}}}", `<str "x">`},
		{"{map a?:str *:any}", "{const: {view: x, default: {}}}", `<str "x">`},
		{"{!m *:str}", "{const: {view: x, default: !m {}}}", `<str "x">`},
		{"[seq any]", "{const: {view: x, default: []}}", `<str "x">`},
		{"[!l $t]", "{const: {view: x, default: !l []}}", `<str "x">`},
		{"[seq by k {map k:str}]", "{const: {view: x, default: []}}", `<str "x">`},
		{"$k", "{const: {view: x, default: []}}", `<str "x">`},
		{"(str|int|[seq str])", "{const: {view: x, default: 0}}", `<str "x">`},
		{"(str|int|[seq str])", "{const: {view: x, default: []}}", `<str "x">`},
		{"$t", "{const: {view: x, default: y}}", `<str "x">`},
	}.hold(t, defs)
	wrongs{
		{"str", "^{const: {view: x, default: 1}}"},
		{"str", "^{const: {view: x, default: ~}}"},
		{"str", "^{const: {view: x, default: !a y}}"},
		{"str", "^{const: {view: x, default: []}}"},
		{"int", "^{const: {view: 1, default: y}}"},
		{"<str 'a' 'b'>", "^{const: {view: a, default: c}}"},
		{"<int '1'>", "^{const: {view: 1, default: '1'}}"},
		{"{map a:str}", "^{const: {view: x, default: {}}}"},
		{"{map}", "^{const: {view: x, default: []}}"},
		{"{map}", "^{const: {view: x, default: !m {}}}"},
		{"{!m}", "^{const: {view: x, default: {}}}"},
		{"[seq str]", "^{const: {view: x, default: {}}}"},
		{"[!l str]", "^{const: {view: x, default: []}}"},
		{"[seq by k {map k:str}]", "^{const: {view: x, default: {}}}"},
		{"(str|int)", "^{const: {view: x, default: true}}"},
		{"(str|{map a:str})", "^{const: {view: x, default: {}}}"},
		// A literal is no leaf.
		{"any", "^{const: {view: x, default: y}}"},
		{"dag", "^{const: {view: x, default: []}}"},
		{"$any", "^{const: {view: x, default: {}}}"},
	}.hold(t, defs)
}

// P18.1, P18.4: Compose.
func TestCompose(t *testing.T) {
	leads{
		{"str", "{compose: [id]}", "str"},
		{"$rec", "{compose: [id, {compose: [id, id]}, id]}", "$rec"},
		{"str", "{compose: [{plunge: a}, {plunge: b}]}", "{map b:{map a:str}}"},
		{"str", "{compose: [{plunge: a}, {plunge: b}, {hoist: b}, {hoist: a}]}", "str"},
		{"any", "{compose: [copy, copy, id, copy]}", "any"},
		{"{map a:str b:int}", "{compose: [{rename: {a: c}}, {rename: {b: a}}, {sink: {into: d, keys: [a, c]}}, {hoist: d}]}", "{map a:int c:str}"},
		{"str", "{compose: [{const: {view: x, default: y}}, {translate: {x: z}}]}", `<str "z">`},
	}.hold(t, defs)
	wrongs{
		{"str", "{compose: [^copy]}"},
		{"str", "{compose: [id, ^copy]}"},
		{"any", "{compose: [copy, {plunge: a}, ^copy]}"},
		{"str", "{compose: [{plunge: a}, ^{hoist: b}]}"},
		{"str", "{compose: [{plunge: a}, {hoist: a}, ^{hoist: a}]}"},
		{"str", "{compose: [^copy, copy]}"},
		{"str", "{compose: [{compose: [id, {compose: [id, ^copy, id]}]}, copy]}"},
	}.hold(t, defs)
}

// P18.1: Project.
func TestProject(t *testing.T) {
	leads{
		{"{map}", "{project: {keep: []}}", "{map}"},
		{"{map *:any}", "{project: {keep: []}}", "{map}"},
		{"{!m a:str}", "{project: {keep: [a]}}", "{!m a:str}"},
		{"{map a:str b?:int}", "{project: {keep: [a, b]}}", "{map a:str b?:int}"},
		{"{map a:str b?:int}", "{project: {keep: [a]}}", "{map a:str}"},
		{"{map a:str b?:int}", "{project: {keep: [b], default: {a: ''}}}", "{map b?:int}"},
		{"{map a:str b?:int}", "{project: {keep: [], default: {a: x}}}", "{map}"},
		{"{map a:str b:int c:[seq any] d:{!m e?:any}}", "{project: {keep: [a], default: {b: 0, c: [], d: !m {}}}}", "{map a:str}"},
		{"{map a:str b:int c:any d:$t *:any}", "{project: {keep: [b, c], default: {a: '', d: []}}}", "{map b:int c:any}"},
		{"{map '':str ' ':str}", "{project: {keep: [''], default: {' ': x}}}", "{map '':str}"},
		{"{map a:(str|int)}", "{project: {keep: [], default: {a: 1}}}", "{map}"},
		{"$rec", "{project: {keep: [v], default: {k: a}}}", "{map v?:int}"},
	}.hold(t, defs)
	wrongs{
		{"str", "^{project: {keep: []}}"},
		{"any", "^{project: {keep: []}}"},
		{"[seq {map a:str}]", "^{project: {keep: [a]}}"},
		{"[seq by k {map k:str}]", "^{project: {keep: [k]}}"},
		{"{map}", "^{project: {keep: [a]}}"},
		{"{map a:str}", "^{project: {keep: [a, b]}}"},
		{"{map b:str}", "^{project: {keep: [a, b]}}"},
		{"{map a:str *:str}", "^{project: {keep: [a, b]}}"},
		// Fields that are left, without a literal.
		{"{map a:str}", "^{project: {keep: []}}"},
		{"{map a:str b:int}", "^{project: {keep: [a]}}"},
		{"{map a:str b:int c:int}", "^{project: {keep: [a], default: {b: 0}}}"},
		{"{map a:str b:int c:int}", "^{project: {keep: [a], default: {c: 0}}}"},
		{"{map a:str b?:int c:int}", "^{project: {keep: [a], default: {b: 0}}}"},
		// Literals of others.
		{"{map a:str}", "^{project: {keep: [a], default: {b: 0}}}"},
		{"{map a:str b?:int}", "^{project: {keep: [a], default: {b: 0}}}"},
		{"{map a:str b:int}", "^{project: {keep: [a], default: {b: 0, c: 0}}}"},
		{"{map a:str b:int}", "^{project: {keep: [a], default: {aa: 0, b: 0}}}"},
		{"{map a:str b:int *:int}", "^{project: {keep: [a], default: {b: 0, c: 0}}}"},
		{"{map a:str *:int}", "^{project: {keep: [a], default: {b: 0}}}"},
		// Literals of another type.
		{"{map a:str b:int}", "^{project: {keep: [a], default: {b: x}}}"},
		{"{map a:str b:int c:str}", "^{project: {keep: [a], default: {b: 0, c: 0}}}"},
		{"{map a:str b:any}", "^{project: {keep: [a], default: {b: x}}}"},
		{"{map a:str b:{map c:str}}", "^{project: {keep: [a], default: {b: {}}}}"},
	}.hold(t, defs)
}

// P18.1: Rename.
func TestRename(t *testing.T) {
	leads{
		{"{map a:str}", "{rename: {a: b}}", "{map b:str}"},
		{"{map a:str}", "{rename: {a: a}}", "{map a:str}"},
		{"{map a:str b:int c:bool}", "{rename: {a: d}}", "{map b:int c:bool d:str}"},
		{"{map a:str b:int c:bool}", "{rename: {c: A}}", "{map A:bool a:str b:int}"},
		{"{map a:str b?:int}", "{rename: {a: b, b: a}}", "{map a?:int b:str}"},
		{"{map a:str b?:int c:bool}", "{rename: {a: b, b: c, c: a}}", "{map a:bool b:str c?:int}"},
		{"{!m '':str b:int}", "{rename: {'': z, b: ''}}", "{!m '':int z:str}"},
		{"$rec", "{rename: {k: w}}", "{map v?:int w:str}"},
		{"{map a:any b:$t}", "{rename: {a: b, b: a}}", "{map a:$t b:any}"},
	}.hold(t, defs)
	wrongs{
		{"str", "^{rename: {a: b}}"},
		{"any", "^{rename: {a: b}}"},
		{"[seq {map a:str}]", "^{rename: {a: b}}"},
		{"{map}", "^{rename: {a: b}}"},
		{"{map b:str}", "^{rename: {a: b}}"},
		{"{map a:str}", "^{rename: {a: b, b: c}}"},
		{"{map b:str}", "^{rename: {a: b, b: c}}"},
		// Not closed.
		{"{map a:str *:str}", "^{rename: {a: b}}"},
		{"{map *:str}", "^{rename: {a: b}}"},
		// Alike.
		{"{map a:str b:str}", "^{rename: {a: b}}"},
		{"{map a:str b?:str}", "^{rename: {a: b}}"},
		{"{map a:str b:str c:int}", "^{rename: {a: b, b: c}}"},
		{"{map a:str b:str c:int}", "^{rename: {b: a, c: b}}"},
	}.hold(t, defs)
}

// P18.1: Hoist, Plunge.
func TestHoistPlunge(t *testing.T) {
	leads{
		{"{map a:str}", "{hoist: a}", "str"},
		{"{!m '':any}", "{hoist: ''}", "any"},
		{"{map a:$rec}", "{hoist: a}", "$rec"},
		{"{map a:{map a:str}}", "{hoist: a}", "{map a:str}"},
		{"$in1", "{hoist: x}", "$t"},
		{"str", "{plunge: a}", "{map a:str}"},
		{"any", "{plunge: ''}", "{map '':any}"},
		{"$rec", "{plunge: a}", "{map a:$rec}"},
		{"{!m a:str}", "{plunge: a}", "{map a:{!m a:str}}"},
	}.hold(t, lens.Defs{Types: spell.Defs("in1={map x:$t} r={map k:str} rec=$r t=(str|[seq $t])")})
	wrongs{
		{"str", "^{hoist: a}"},
		{"any", "^{hoist: a}"},
		{"[seq {map a:str}]", "^{hoist: a}"},
		{"({map a:str}|str)", "^{hoist: a}"},
		{"{map}", "^{hoist: a}"},
		{"{map b:str}", "^{hoist: a}"},
		{"{map A:str}", "^{hoist: a}"},
		{"{map a?:str}", "^{hoist: a}"},
		{"{map a:str b:str}", "^{hoist: a}"},
		{"{map a:str b?:str}", "^{hoist: a}"},
		{"{map '':str a:str}", "^{hoist: a}"},
		{"{map a:str *:str}", "^{hoist: a}"},
		{"{map *:str}", "^{hoist: a}"},
	}.hold(t, defs)
}

// P18.1: Lift.
func TestLift(t *testing.T) {
	leads{
		{"{map a:{map}}", "{lift: a}", "{map}"},
		{"{map a:{map a:str}}", "{lift: a}", "{map a:str}"},
		{"{!m a:str c:{!n b:int d?:bool}}", "{lift: c}", "{!m a:str b:int d?:bool}"},
		{"{map a:str b?:int c:$in}", "{lift: c}", "{map a:str b?:int x:str y?:int}"},
		{"{map c:$in x0:str z?:any}", "{lift: c}", "{map x:str x0:str y?:int z?:any}"},
		{"{map a:{map b:{map c:str}}}", "{lift: a}", "{map b:{map c:str}}"},
		{"{map v0:bool x:$rec}", "{lift: x}", "{map k:str v?:int v0:bool}"},
	}.hold(t, defs)
	wrongs{
		{"str", "^{lift: a}"},
		{"any", "^{lift: a}"},
		{"[seq {map a:{map}}]", "^{lift: a}"},
		{"{map}", "^{lift: a}"},
		{"{map b:{map}}", "^{lift: a}"},
		{"{map a?:{map}}", "^{lift: a}"},
		{"{map a:{map} *:str}", "^{lift: a}"},
		{"{map *:{map}}", "^{lift: a}"},
		{"{map a:str}", "^{lift: a}"},
		{"{map a:any}", "^{lift: a}"},
		{"{map a:[seq {map}]}", "^{lift: a}"},
		{"{map a:({map}|str)}", "^{lift: a}"},
		{"{map a:{map *:str}}", "^{lift: a}"},
		{"{map a:{map b:str *:str}}", "^{lift: a}"},
		{"{map a:$t}", "^{lift: a}"},
		// Alike.
		{"{map a:{map b:str} b:str}", "^{lift: a}"},
		{"{map a:{map b?:str} b?:str}", "^{lift: a}"},
		{"{map a:{map a:str b:str} b:str}", "^{lift: a}"},
		{"{map '':str a:{map '':int}}", "^{lift: a}"},
		{"{map c:$in y:str}", "^{lift: c}"},
	}.hold(t, defs)
}

// P18.1: Sink.
func TestSink(t *testing.T) {
	leads{
		{"{map a:str}", "{sink: {into: b, keys: [a]}}", "{map b:{map a:str}}"},
		{"{map a:str}", "{sink: {into: a, keys: [a]}}", "{map a:{map a:str}}"},
		{"{!m a:str b?:int c:bool}", "{sink: {into: d, keys: [a, b]}}", "{!m c:bool d:{map a:str b?:int}}"},
		{"{!m a:str b?:int c:bool}", "{sink: {into: a, keys: [a, b]}}", "{!m a:{map a:str b?:int} c:bool}"},
		{"{!m a:str b?:int c:bool}", "{sink: {into: '', keys: [a, b, c]}}", "{!m '':{map a:str b?:int c:bool}}"},
		{"{map a:str b:$rec}", "{sink: {into: c, keys: [b]}}", "{map a:str c:{map b:$rec}}"},
		{"$rec", "{sink: {into: a, keys: [v]}}", "{map a:{map v?:int} k:str}"},
	}.hold(t, defs)
	wrongs{
		{"str", "^{sink: {into: a, keys: [a]}}"},
		{"any", "^{sink: {into: a, keys: [a]}}"},
		{"[seq {map a:str}]", "^{sink: {into: b, keys: [a]}}"},
		{"{map}", "^{sink: {into: b, keys: [a]}}"},
		{"{map a:str}", "^{sink: {into: c, keys: [a, b]}}"},
		{"{map b:str}", "^{sink: {into: c, keys: [a, b]}}"},
		{"{map a:str *:str}", "^{sink: {into: b, keys: [a]}}"},
		{"{map *:str}", "^{sink: {into: b, keys: [a]}}"},
		{"{map a:str b:str}", "^{sink: {into: b, keys: [a]}}"},
		{"{map a:str b?:str}", "^{sink: {into: b, keys: [a]}}"},
		{"{map '':int a:str b:str}", "^{sink: {into: '', keys: [a, b]}}"},
	}.hold(t, defs)
}

// P18.1: Filter.
func TestFilter(t *testing.T) {
	leads{
		{"[seq (str|int)]", "{filter: [.int]}", "[seq int]"},
		{"[!l (str|int)]", "{filter: [.str]}", "[!l str]"},
		{"[seq (str|int|bool)]", "{filter: [.bool, .str]}", "[seq (str|bool)]"},
		{"[seq (str|int|bool|null)]", "{filter: [.bool, .null, .str]}", "[seq (str|bool|null)]"},
		{"{map *:(str|int)}", "{filter: [.int]}", "{map *:int}"},
		{"{!m *:(str|int|bool)}", "{filter: [.bool, .int]}", "{!m *:(int|bool)}"},
		{"[seq $u]", "{filter: ['[seq']}", "[seq [seq $s]]"},
		{"$l", "{filter: [.int, '[seq']}", "[seq (int|[seq $s])]"},
		{"[seq $t]", "{filter: [.str]}", "[seq str]"},
		{"[seq ($s|{map a:any}|{!m}|[!l any]|<int '1'>)]", "{filter: [.int, .str, '[!l', '{!m']}", "[seq ($s|{!m}|[!l any]|<int \"1\">)]"},
		{"[seq ($s|{map a:any}|{!m}|[!l any]|<int '1'>)]", "{filter: ['{map']}", "[seq {map a:any}]"},
		// An Item that has several heads stays, or goes, as a whole.
		{"[seq ((str|int)|bool)]", "{filter: [.int, .str]}", "[seq (str|int)]"},
		{"[seq ((str|int)|bool|null)]", "{filter: [.bool, .int, .str]}", "[seq ((str|int)|bool)]"},
		{"[seq ((str|int)|bool|null)]", "{filter: [.bool, .null]}", "[seq (bool|null)]"},
		{"[seq ($t|bool|null)]", "{filter: [.str, '[seq']}", "[seq $t]"},
	}.hold(t, defs)
	wrongs{
		{"str", "^{filter: [.str]}"},
		{"any", "^{filter: [.str]}"},
		{"(str|int)", "^{filter: [.str]}"},
		{"[seq by k {map k:str}]", "^{filter: ['{map']}"},
		{"{map}", "^{filter: [.str]}"},
		{"{map a:(str|int)}", "^{filter: [.str]}"},
		{"{map a:(str|int) *:(str|int)}", "^{filter: [.str]}"},
		// What it holds is no Union.
		{"[seq str]", "^{filter: [.str]}"},
		{"[seq any]", "^{filter: [.str]}"},
		{"{map *:str}", "^{filter: [.str]}"},
		{"[seq $rec]", "^{filter: ['{map']}"},
		{"[seq [seq (str|int)]]", "^{filter: ['[seq']}"},
		// All stay, or none.
		{"[seq (str|int)]", "^{filter: [.int, .str]}"},
		{"[seq (str|int)]", "^{filter: [.bool]}"},
		{"{map *:(str|int)}", "^{filter: [.int, .str]}"},
		// A word is the head of none.
		{"[seq (str|int)]", "^{filter: [.bool, .int]}"},
		{"[seq (str|int)]", "^{filter: [.int, x]}"},
		{"[seq (str|int|bool)]", "^{filter: ['', .int]}"},
		{"[seq (str|int)]", "^{filter: [int]}"},
		{"[seq (str|!a)]", "^{filter: ['{!a']}"},
		// An Item has heads of both.
		{"[seq ((str|int)|bool)]", "^{filter: [.int]}"},
		{"[seq ((str|int)|bool)]", "^{filter: [.bool, .int]}"},
		{"[seq ((str|int)|bool)]", "^{filter: [.bool, .int, .str]}"},
		{"[seq ($t|bool)]", "^{filter: [.str]}"},
	}.hold(t, defs)
}

// P18.1: Map, Items.
func TestMapItems(t *testing.T) {
	leads{
		{"{map *:str}", "{map: id}", "{map *:str}"},
		{"{!m *:str}", "{map: {plunge: k}}", "{!m *:{map k:str}}"},
		{"{map *:{map *:any}}", "{map: {map: copy}}", "{map *:{map *:any}}"},
		{"[seq str]", "{items: id}", "[seq str]"},
		{"[!l {map a:str}]", "{items: {hoist: a}}", "[!l str]"},
		{"$l", "{items: id}", "[seq $u]"},
		{"[seq {map *:[seq str]}]", "{items: {map: {items: {plunge: k}}}}", "[seq {map *:[seq {map k:str}]}]"},
		{"[seq [seq by k {map k:str}]]", "{items: id}", "[seq [seq by k {map k:str}]]"},
	}.hold(t, defs)
	wrongs{
		{"str", "^{map: id}"},
		{"any", "^{map: id}"},
		{"{map}", "^{map: id}"},
		{"{map a:str}", "^{map: id}"},
		{"{map a?:str *:str}", "^{map: id}"},
		{"[seq str]", "^{map: id}"},
		{"({map *:str}|str)", "^{map: id}"},
		{"{map *:str}", "{map: ^copy}"},
		{"{map *:{map *:str}}", "{map: {map: ^{hoist: a}}}"},
		{"str", "^{items: id}"},
		{"any", "^{items: id}"},
		{"{map *:str}", "^{items: id}"},
		{"[seq by k {map k:str}]", "^{items: id}"},
		{"$k", "^{items: id}"},
		{"$u", "^{items: id}"},
		{"[seq str]", "{items: ^copy}"},
		{"[seq str]", "{items: ^{items: copy}}"},
		{"str", "^{map: copy}"},
		{"str", "^{items: copy}"},
	}.hold(t, defs)
}

// P18.1: Keyed.
func TestKeyed(t *testing.T) {
	leads{
		{"[seq by k {map k:str}]", "{keyed: id}", "[seq by k {map k:str}]"},
		{"[!l by k {!m k:str v:int}]", "{keyed: {rename: {v: w}}}", "[!l by k {!m k:str w:int}]"},
		{"$k", "{keyed: id}", "[seq by k $rec]"},
		{"$k", "{keyed: {use: fill}}", "[seq by k {map k:str v:int}]"},
		{"[seq by k {map k:<int '1' '2'> v?:int}]", "{keyed: {project: {keep: [k]}}}", "[seq by k {map k:<int \"1\" \"2\">}]"},
		{"[seq by k {map k:$b v:int *:any}]", "{keyed: {project: {keep: [k], default: {v: 0}}}}", "[seq by k {map k:$b}]"},
		{"[seq by k {map k:$b v:int}]", "{keyed: {on: {k: id, v: {plunge: x}}}}", "[seq by k {map k:$b v:{map x:int}}]"},
		{"[seq by k {map k:$b v:{map x:int}}]", "{keyed: {compose: [{lift: v}, {sink: {into: v, keys: [x]}}]}}", "[seq by k {map k:$b v:{map x:int}}]"},
		{"[seq by '' {map '':str v?:int}]", "{keyed: {fill: {key: v, value: 5}}}", "[seq by '' {map '':str v:int}]"},
	}.hold(t, defs)
	wrongs{
		{"str", "^{keyed: id}"},
		{"any", "^{keyed: id}"},
		{"[seq {map k:str}]", "^{keyed: id}"},
		{"{map *:{map k:str}}", "^{keyed: id}"},
		{"[seq [seq by k {map k:str}]]", "^{keyed: id}"},
		// The key isn't kept: that is asked ahead of what the Kid does.
		{"[seq by k {map k:str v:int}]", "^{keyed: {rename: {k: l}}}"},
		{"[seq by k {map k:str v:int}]", "^{keyed: {rename: {k: k}}}"},
		{"[seq by k {map k:str v:int}]", "^{keyed: {rename: {v: k}}}"},
		{"[seq by k {map k:str v:int}]", "^{keyed: {project: {keep: [v], default: {k: x}}}}"},
		{"[seq by k {map k:str v:int}]", "^{keyed: {on: {k: {compose: [id]}}}}"},
		{"[seq by k {map k:str v:int}]", "^{keyed: {sink: {into: w, keys: [k]}}}"},
		{"[seq by k {map k:str v:int}]", "^{keyed: {plunge: k}}"},
		{"[seq by k {map k:str}]", "^{keyed: {hoist: k}}"},
		{"[seq by k {map k:str}]", "^{keyed: copy}"},
		{"[seq by k {map k:str}]", "^{keyed: {const: {view: x, default: y}}}"},
		{"[seq by k {map k:str}]", "^{keyed: {map: id}}"},
		{"[seq by k {map k:str}]", "^{keyed: {compose: [id, copy]}}"},
		{"[seq by k {map k:str}]", "^{keyed: {compose: [{use: none}, {rename: {k: l}}]}}"},
		{"[seq by k {map k:str}]", "^{keyed: {use: none}}"},
		{"[seq by k {map k:str}]", "^{keyed: {use: hoist}}"},
		{"[seq by k {map k:str}]", "^{keyed: {use: tree}}"},
		// The Kid is wrong.
		{"[seq by k {map k:str}]", "{keyed: ^{rename: {a: b}}}"},
		{"[seq by k {map k:str}]", "{keyed: {compose: [id, ^{fill: {key: v, value: 0}}]}}"},
		{"[seq by k {map k:str}]", "{keyed: ^{use: fill}}"},
		{"[seq by k {map k:str}]", "{keyed: ^{union: [id, id]}}"},
		// What stands around it comes first.
		{"[seq [seq by k {map k:str}]]", "{items: ^{keyed: copy}}"},
		{"{map a:str b:[seq by k {map k:str}]}", "{on: {a: ^copy, b: {keyed: copy}}}"},
	}.hold(t, defs)
}

// P18.1: what comes of a Keyed's Kid, which keeps the key, but not what stands behind it.
func TestKeyedViews(t *testing.T) {
	// A lens that uses itself is of its View, whatever that is, as long as its definition isn't looked at.
	d := lens.Defs{Types: spell.Defs("a={map k:str} b=$a c={map k:$s} s=str"), Names: []string{"f"}, Lenses: []lens.Def{{Source: spell.Type("$a"), Lens: lens.Lens{Kind: lens.Id}}}}
	for _, c := range []struct{ view, want string }{
		{"{map k:str}", "[seq by k {map k:str}]"},
		{"$a", "[seq by k $a]"},
		{"$b", "[seq by k $b]"},
		{"$c", "[seq by k $c]"},
		{"{!m k:str}", "[seq by k {!m k:str}]"},
		{"{map a?:int k:$s l:any *:any}", "[seq by k {map a?:int k:$s l:any *:any}]"},
		{"{map}", ""},
		{"{map l:str}", ""},
		{"{map *:str}", ""},
		{"{map k?:str}", ""},
		{"{map k:int}", ""},
		{"{map k:<str 'a'>}", ""},
		{"{map k:{map k:str}}", ""},
		{"str", ""},
		{"any", ""},
		{"[seq {map k:str}]", ""},
		{"({map k:str}|str)", ""},
	} {
		d.Lenses[0].View = spell.Type(c.view)
		for _, source := range []string{"[seq by k $a]", "[seq by k $b]", "[seq by k {map k:$s}]"} {
			x := lens.Lens{Kind: lens.Keyed, At: 3, Kids: []lens.Lens{{Kind: lens.Use, At: 4, Name: "f"}}}
			want := api.Fault{}
			if c.want == "" {
				want = api.Fault{Errno: api.ErrLens, At: 3}
			}
			if strings.Contains(source, "$s") {
				// By this source the Use itself is wrong.
				want = api.Fault{Errno: api.ErrLens, At: 4}
			}
			for _, d := range []lens.Defs{d, grind.NoisyProgram(d)} {
				got, f, _ := tell(t, d, x, spell.Type(source))
				if f != want || !f.Bad() && got != c.want {
					t.Errorf("%s to %s: %s%v at %d, not %s%v at %d", source, c.view, got, f, f.At, c.want, want, want.At)
				}
			}
		}
	}
}

// P18.1: On.
func TestOn(t *testing.T) {
	leads{
		{"{map a:str}", "{on: {a: id}}", "{map a:str}"},
		{"{map a:str}", "{on: {a: {plunge: k}}}", "{map a:{map k:str}}"},
		{"{!m a:str b?:any c:int *:any}", "{on: {b: copy}}", "{!m a:str b?:any c:int *:any}"},
		{"{!m a:str b?:any c:int *:any}", "{on: {a: {plunge: x}, b: {plunge: y}, c: id}}", "{!m a:{map x:str} b?:{map y:any} c:int *:any}"},
		{"$rec", "{on: {v: {plunge: x}}}", "{map k:str v?:{map x:int}}"},
		{"{map '':str a:{map a:any}}", "{on: {'': {plunge: a}, a: {on: {a: copy}}}}", "{map '':{map a:str} a:{map a:any}}"},
	}.hold(t, defs)
	wrongs{
		{"str", "^{on: {a: id}}"},
		{"any", "^{on: {a: copy}}"},
		{"[seq {map a:str}]", "^{on: {a: id}}"},
		{"{map}", "^{on: {a: id}}"},
		{"{map b:str}", "^{on: {a: id}}"},
		{"{map *:str}", "^{on: {a: id}}"},
		{"{map b:str *:str}", "^{on: {a: copy, b: copy}}"},
		{"{map a:str *:str}", "^{on: {a: copy, b: copy}}"},
		{"{map a:str}", "{on: {a: ^copy}}"},
		{"{map a:str b:int}", "{on: {a: id, b: ^copy}}"},
		{"{map a:str b:int}", "{on: {a: ^copy, b: copy}}"},
		{"{map a:{map b:str} c:str}", "{on: {a: {on: {b: ^copy}}, c: copy}}"},
	}.hold(t, defs)
}

// P18.1: Union.
func TestUnion(t *testing.T) {
	leads{
		{"(str|int)", "{union: [id, id]}", "(str|int)"},
		{"(int|str)", "{union: [{plunge: k}, id]}", "({map k:int}|str)"},
		{"$u", "{union: [{plunge: k}, id, {items: {plunge: k}}]}", "({map k:str}|int|[seq {map k:$s}])"},
		{"(str|{map a:int})", "{union: [id, {hoist: a}]}", "(str|int)"},
		{"((str|int)|bool)", "{union: [id, id]}", "((str|int)|bool)"},
		{"((str|int)|bool)", "{union: [{union: [{plunge: k}, id]}, id]}", "(({map k:str}|int)|bool)"},
		{"(str|int)", "{union: [{const: {view: 1, default: x}}, {const: {view: x, default: 1}}]}", `(<int "1">|<str "x">)`},
		{"$t", "{union: [id, {items: {use: tree}}]}", "(str|[seq $t])"},
		{"(str|$k)", "{union: [id, {keyed: {use: fill}}]}", "(str|[seq by k {map k:str v:int}])"},
		{"({map}|{!m a:str}|[seq any]|[!l any]|!a)", "{union: [id, {hoist: a}, id, {items: copy}, id]}", "({map}|str|[seq any]|[!l any]|!a)"},
	}.hold(t, defs)
	wrongs{
		{"str", "^{union: [id, id]}"},
		{"any", "^{union: [id, id]}"},
		{"[seq (str|int)]", "^{union: [id, id]}"},
		{"(str|int)", "^{union: [id, id, id]}"},
		{"(str|int|bool)", "^{union: [id, id]}"},
		{"((str|int)|bool)", "^{union: [id, id, id]}"},
		{"(str|int)", "{union: [id, ^copy]}"},
		{"(str|int)", "{union: [^copy, copy]}"},
		{"(str|int)", "^{union: [copy, copy, id]}"},
		// What comes of the Kids may not be.
		{"(str|int)", "^{union: [id, {const: {view: x, default: 1}}]}"},
		{"(str|int)", "^{union: [{plunge: a}, {plunge: b}]}"},
		{"(str|{map a:str})", "^{union: [id, {hoist: a}]}"},
		{"(str|{map a:any})", "^{union: [id, {hoist: a}]}"},
		{"(str|{map a:dag})", "^{union: [id, {hoist: a}]}"},
		{"(str|{map a:(bool|[seq str])}|[seq int])", "^{union: [id, {hoist: a}, id]}"},
		{"({map}|{!m}|[seq any]|[!l any]|!a)", "^{union: [id, id, id, id, {plunge: k}]}"},
		{"((str|int)|{map a:bool})", "{union: [^{union: [{plunge: a}, {plunge: a}]}, id]}"},
		{"((str|int)|{map a:bool})", "^{union: [{union: [{plunge: a}, id]}, id]}"},
		{"((str|int)|bool)", "^{union: [id, {const: {view: 0, default: true}}]}"},
		// That comes behind what is wrong with the Kids, and what stands behind that.
		{"(str|int|bool)", "{union: [{plunge: a}, {plunge: a}, ^copy]}"},
		{"(str|int|bool)", "{union: [{plunge: a}, {plunge: a}, ^^{use: none}]}"},
		{"{map a:(str|int) b:str}", "{on: {a: ^{union: [{plunge: a}, {plunge: a}]}, b: copy}}"},
		{"{map a:(str|int) b:str}", "{on: {a: {union: [id, {plunge: a}]}, b: ^copy}}"},
	}.hold(t, defs)
}

// P18.1: Fill.
func TestFill(t *testing.T) {
	leads{
		{"{map a?:str}", "{fill: {key: a, value: x}}", "{map a:str}"},
		{"{!m a?:str b?:int c:any *:any}", "{fill: {key: b, value: 1}}", "{!m a?:str b:int c:any *:any}"},
		{"{map a?:<str 'x' 'y'>}", "{fill: {key: a, value: y}}", `{map a:<str "x" "y">}`},
		{"{map a?:(int|str)}", "{fill: {key: a, value: 0}}", "{map a:(int|str)}"},
		{"{map ''?:$t}", "{fill: {key: '', value: x}}", "{map '':$t}"},
		{"$rec", "{fill: {key: v, value: 0}}", "{map k:str v:int}"},
	}.hold(t, defs)
	wrongs{
		{"str", "^{fill: {key: a, value: x}}"},
		{"any", "^{fill: {key: a, value: x}}"},
		{"[seq {map a?:str}]", "^{fill: {key: a, value: x}}"},
		{"{map}", "^{fill: {key: a, value: x}}"},
		{"{map *:str}", "^{fill: {key: a, value: x}}"},
		{"{map a:str}", "^{fill: {key: a, value: x}}"},
		{"{map b?:str}", "^{fill: {key: a, value: x}}"},
		{"{map a:str b?:str}", "^{fill: {key: a, value: x}}"},
		{"{map a?:str}", "^{fill: {key: a, value: 1}}"},
		{"{map a?:int}", "^{fill: {key: a, value: x}}"},
		{"{map a?:any}", "^{fill: {key: a, value: x}}"},
		{"{map a?:[seq str]}", "^{fill: {key: a, value: x}}"},
		{"{map a?:<str 'x' 'y'>}", "^{fill: {key: a, value: z}}"},
		{"{map a?:(int|bool)}", "^{fill: {key: a, value: x}}"},
	}.hold(t, defs)
}

// P18.1: Translate.
func TestTranslate(t *testing.T) {
	leads{
		{"<str 'a'>", "{translate: {a: x}}", `<str "x">`},
		{"$e", "{translate: {a: x, b: y}}", `<str "x" "y">`},
		{"$e", "{translate: {a: y, b: x}}", `<str "x" "y">`},
		{"$e", "{translate: {a: b, b: a}}", `<str "a" "b">`},
		{"<int '1' '2' '3'>", "{translate: {1: 9, 2: 10, 3: -1}}", `<int "-1" "10" "9">`},
		{"<bool 'true'>", "{translate: {true: false}}", `<bool "false">`},
		{"<null ''>", "{translate: {'': ''}}", `<null "">`},
		{"<!a '' 'b'>", "{translate: {'': c, b: ''}}", `<!a "" "c">`},
	}.hold(t, defs)
	wrongs{
		{"str", "^{translate: {a: x}}"},
		{"any", "^{translate: {a: x}}"},
		{"{map a:str}", "^{translate: {a: x}}"},
		{"[seq <str 'a'>]", "^{translate: {a: x}}"},
		{"$e", "^{translate: {a: x}}"},
		{"$e", "^{translate: {b: x}}"},
		{"$e", "^{translate: {a: x, c: y}}"},
		{"$e", "^{translate: {a: x, b: y, c: z}}"},
		{"<str 'b'>", "^{translate: {a: x}}"},
		{"<int '1' '2'>", "^{translate: {1: 3, 2: x}}"},
		{"<int '1' '2'>", "^{translate: {1: '', 2: 3}}"},
		{"<int '1'>", "^{translate: {1: -0}}"},
		{"<bool 'true'>", "^{translate: {true: yes}}"},
		{"<null ''>", "^{translate: {'': x}}"},
	}.hold(t, defs)
	// Words may be any texts, but not of any Tag.
	for _, c := range []struct {
		tag, word string
		ok        bool
	}{{"str", strings.Repeat("a", 1024), true}, {"str", strings.Repeat("a", 1025), false}, {"str", "\xff", false}, {"!a", "\xff", false}, {"!a", "\n", true}} {
		l := lens.Lens{Kind: lens.Translate, Keys: []string{"a", "b"}, Words: []string{"z", c.word}}
		_, f := check.Check(lens.Defs{}, l, typ.Type{Kind: typ.Enum, Tag: c.tag, Words: []string{"a", "b"}})
		if f.Bad() == c.ok || f.Bad() && f.Errno != api.ErrLens {
			t.Errorf("%.9q of %s: %v", c.word, c.tag, f)
		}
	}
}

// P18.1: Use.
func TestUse(t *testing.T) {
	leads{
		{"$r", "{use: fill}", "{map k:str v:int}"},
		{"$rec", "{use: fill}", "{map k:str v:int}"},
		{"{map k:str v?:int}", "{use: fill}", "{map k:str v:int}"},
		{"{map k:str}", "{use: hoist}", "str"},
		{"str", "{use: name}", "$b"},
		{"$b", "{use: name}", "$b"},
		{"$s", "{compose: [{use: name}, {use: name}, {use: name}]}", "$b"},
		{"$t", "{use: tree}", "$t"},
		{"(str|[seq $t])", "{use: tree}", "$t"},
		{"[seq $t]", "{items: {use: tree}}", "[seq $t]"},
		{"$k", "{use: rows}", "[seq by k {map k:str v:int}]"},
		{"{map a:$s b?:{map k:str}}", "{on: {a: {use: name}, b: {use: hoist}}}", "{map a:$b b?:str}"},
	}.hold(t, defs)
	wrongs{
		{"str", "^{use: fill}"},
		{"{map k:$s v?:int}", "^{use: fill}"},
		{"{map k:str v:int}", "^{use: fill}"},
		{"{map k:str v?:int}", "{compose: [{use: fill}, ^{use: fill}]}"},
		{"{map k:$s}", "^{use: hoist}"},
		{"(str|[seq (str|[seq $t])])", "^{use: tree}"},
		{"any", "^{use: tree}"},
		{"str", "^^{use: none}"},
		{"str", "^^{use: a}"},
		{"str", "^^{use: filll}"},
		{"str", "^^{use: zzz}"},
		{"str", "{compose: [id, ^^{use: none}, copy]}"},
		{"str", "{compose: [^copy, {use: none}]}"},
		{"[seq str]", "{items: ^^{use: none}}"},
		{"str", "^{items: {use: none}}"},
	}.hold(t, defs)
	wrongs{{"str", "^^{use: f}"}}.hold(t, lens.Defs{})
}

// P18.1: keys and literals at their limits.
func TestLimits(t *testing.T) {
	long, big := strings.Repeat("k", 1024), strings.Repeat("v", 1024)
	s := spell.Type("{map a:str " + long + "?:str}")
	for _, c := range []struct {
		lens lens.Lens
		want string
	}{
		{lens.Lens{Kind: lens.Plunge, Name: long}, "{map " + long + ":{map a:str " + long + "?:str}}"},
		{lens.Lens{Kind: lens.Project, Keys: []string{long}, Drops: []string{"a"}, Values: []value.Value{carve.Str(big)}}, "{map " + long + "?:str}"},
		{lens.Lens{Kind: lens.Fill, Name: long, Values: []value.Value{carve.Str(big)}}, "{map a:str " + long + ":str}"},
		{lens.Lens{Kind: lens.Rename, Keys: []string{"a", long}, Words: []string{long, "a"}}, "{map a?:str " + long + ":str}"},
		{lens.Lens{Kind: lens.Sink, Name: long, Keys: []string{long}}, "{map a:str " + long + ":{map " + long + "?:str}}"},
		{lens.Lens{Kind: lens.On, Keys: []string{long}, Kids: []lens.Lens{{Kind: lens.Plunge, Name: "x"}}}, "{map a:str " + long + "?:{map x:str}}"},
	} {
		if got, f, _ := tell(t, lens.Defs{}, c.lens, s); got != c.want {
			t.Errorf("%.60s: %v", got, f)
		}
	}
	constant := lens.Lens{Kind: lens.Const, Values: []value.Value{carve.Str(big), carve.Str(big)}}
	if got, f, _ := tell(t, lens.Defs{}, constant, spell.Type("str")); got != `<str "`+big+`">` {
		t.Errorf("%.60s: %v", got, f)
	}
}

// disguised is a type of another kind, with all that it had, which plays no part any more.
func disguised(t typ.Type, k typ.Kind) typ.Type {
	if t.Kind, t.Tag = k, "str"; k == typ.Name {
		t.Name = "any"
	}
	return t
}

// P18.1: what plays no part makes nothing right.
func TestDisguised(t *testing.T) {
	lensAt := func(l lens.Lens, s typ.Type, want api.Fault) {
		t.Helper()
		if f := typ.Check(defs.Types, s); f.Bad() {
			t.Fatalf("%+v: %v at %d", s, f, f.At)
		}
		if _, f := check.Check(defs, l, s); f != want {
			t.Errorf("%s by %+v: %v at %d", show(l), s, f, f.At)
		}
	}
	for _, k := range []typ.Kind{typ.Scalar, typ.Dag, typ.Any, typ.Name} {
		for _, c := range all {
			l := grind.Lens(c.lens)
			at := l.At
			switch l.Kind {
			case lens.Id, lens.Copy, lens.Plunge, lens.Const:
				continue
			case lens.Compose:
				at = l.Kids[0].At
			}
			s, _ := typ.Resolve(defs.Types, spell.Type(c.right))
			lensAt(l, disguised(s, k), api.Fault{Errno: api.ErrLens, At: at})
		}
		wrong := api.Fault{Errno: api.ErrLens, At: 7}
		// What a Filter's List holds, what is lifted, and what a Keyed's Kid makes of items.
		filter := lens.Lens{Kind: lens.Filter, At: 7, Words: []string{".int"}}
		union := spell.Type("(str|int)")
		lensAt(filter, typ.Type{Kind: typ.List, Tag: "seq", Items: []typ.Type{union}}, api.Fault{})
		lensAt(filter, typ.Type{Kind: typ.List, Tag: "seq", Items: []typ.Type{disguised(union, k)}}, wrong)
		lift, r := lens.Lens{Kind: lens.Lift, At: 7, Name: "a"}, spell.Type("{map a:{map b:str}}")
		lensAt(lift, r, api.Fault{})
		r.Fields[0].Type = disguised(r.Fields[0].Type, k)
		lensAt(lift, r, wrong)
		keyed := lens.Lens{Kind: lens.Keyed, At: 7, Kids: []lens.Lens{{Kind: lens.Use, Name: "f"}}}
		item := spell.Type("{map k:str}")
		d := lens.Defs{Types: defs.Types, Names: []string{"f"}, Lenses: []lens.Def{{Source: item, View: disguised(item, k), Lens: lens.Lens{Kind: lens.Id}}}}
		if _, f := check.Check(d, keyed, typ.Type{Kind: typ.Keyed, Tag: "seq", Name: "k", Items: []typ.Type{item}}); f != wrong {
			t.Errorf("%d: %v at %d", k, f, f.At)
		}
	}
}
