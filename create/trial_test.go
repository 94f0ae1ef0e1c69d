package create_test

import (
	"math/rand"
	"reflect"
	"testing"

	"stanhope/check"
	"stanhope/create"
	"stanhope/trial"
	"stanhope/value"
)

// each are lenses of each kind, with a view.
var each = trial.Rows{
	{Source: "{map a:[seq any]}", Lens: "id", From: "{a: [!leaf 1, !leaf 2]}"},
	{Source: "any", Lens: "copy", From: "!leaf 1"},
	{Source: "[seq str]", Lens: "{const: {view: x, default: []}}", From: "x"},
	{Source: "[seq [seq str]]", Lens: "{compose: [{items: {plunge: k}}, {items: {rename: {k: l}}}, {items: {hoist: l}}]}", From: "[[x, y], [], [z]]"},
	{Source: "{map a:str b:[seq str] c:[seq any]}", Lens: "{project: {keep: [b], default: {a: '', c: []}}}", From: "{b: [x, y]}"},
	{Source: "{map a:str b:[seq str]}", Lens: "{rename: {a: b, b: a}}", From: "{b: x, a: [x, y]}"},
	{Source: "{map a:[seq str]}", Lens: "{hoist: a}", From: "[x, y]"},
	{Source: "[seq str]", Lens: "{plunge: a}", From: "{a: [x, y]}"},
	{Source: "{map a:$rec b:[seq str]}", Lens: "{lift: a}", From: "{k: x, v: 1, b: [x, y]}"},
	{Source: "{map a:[seq str] b:int}", Lens: "{sink: {into: k, keys: [a]}}", From: "{k: {a: [x, y]}, b: 1}"},
	{Source: "[seq (str|int)]", Lens: "{filter: [.str]}", From: "[x, y]"},
	{Source: "{map *:$u}", Lens: "{filter: ['[seq']}", From: "{b: [x], d: [y, z]}"},
	{Source: "{map *:[seq str]}", Lens: "{map: {items: {plunge: k}}}", From: "{a: [{k: x}, {k: y}], b: [{k: z}]}"},
	{Source: "[seq {map *:str}]", Lens: "{items: {map: {plunge: k}}}", From: "[{a: {k: x}, b: {k: y}}, {c: {k: z}}]"},
	{Source: "$k", Lens: "{keyed: {fill: {key: v, value: 0}}}", From: "[{k: x, v: 0}, {k: y, v: 1}]"},
	{Source: "{map a:[seq str] b:str c?:int}", Lens: "{on: {a: {items: {plunge: k}}, c: {plunge: l}}}", From: "{a: [{k: x}, {k: y}], b: z, c: {l: 1}}"},
	{Source: "(str|[seq str])", Lens: "{union: [{plunge: k}, {items: {plunge: k}}]}", From: "[{k: x}, {k: y}]"},
	{Source: "{map a:[seq str] b?:str}", Lens: "{fill: {key: b, value: y}}", From: "{a: [x], b: y}"},
	{Source: "$e", Lens: "{translate: {a: b, b: a}}", From: "a"},
	{Source: "$t", Lens: "{use: grow}", From: "[{k: x}, [{k: y}, [{k: z}], []]]"},
}

// P21.1, P21.3: a view of each kind, with one thing changed.
func TestEach(t *testing.T) { each.Each(t, sources) }

// P21.1, P21.3: lenses, types and views as they fall.
func TestFall(t *testing.T) { sources.Fall(t, rand.New(rand.NewSource(211)).Intn) }

// P21.1: definitions that lead back to themselves.
func TestDefined(t *testing.T) { sources.Defined(t, rand.New(rand.NewSource(212)).Intn) }

// P21.1, P21.3: what a Compose's Kids make, of about as many nodes as there may be.
func TestFull(t *testing.T) { sources.Full(t, rand.New(rand.NewSource(213)).Intn) }

// R1, R2: whatever is handed in.
func TestScrap(t *testing.T) { each.Scrap(t, sources, rand.New(rand.NewSource(214)).Intn) }

// R1: values and plans of any depth, length and width.
func TestFar(t *testing.T) {
	sources.Deep(t)
	sources.Long(t)
	sources.Wide(t)
}

// R3, R5: what is handed in stays as it is.
func TestHandedIn(t *testing.T) {
	each.HandedIn(t, sources, reflect.DeepEqual, func(e check.Env, p check.Plan, v value.Value) { create.Drop(p.Lens, v) })
	sources.Shared(t)
}

// R4: nil and empty lists are one.
func TestEmpty(t *testing.T) { sources.Empty(t) }
