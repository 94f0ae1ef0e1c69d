package get_test

import (
	"math/rand"
	"reflect"
	"testing"

	"stanhope/check"
	"stanhope/get"
	"stanhope/trial"
	"stanhope/value"
)

// each are lenses of each kind, with a source.
var each = trial.Rows{
	{Source: "{map a:[seq any]}", Lens: "id", From: "{a: [!leaf 1, !leaf 2]}"},
	{Source: "any", Lens: "copy", From: "!leaf 1"},
	{Source: "[seq str]", Lens: "{const: {view: x, default: []}}", From: "[x, y]"},
	{Source: "[seq [seq str]]", Lens: "{compose: [{items: {plunge: k}}, {items: {rename: {k: l}}}, {items: {hoist: l}}]}", From: "[[x, y], [], [z]]"},
	{Source: "{map a:str b:[seq str]}", Lens: "{project: {keep: [b], default: {a: ''}}}", From: "{a: x, b: [x, y]}"},
	{Source: "{map a:str b:[seq str]}", Lens: "{rename: {a: b, b: a}}", From: "{a: x, b: [x, y]}"},
	{Source: "{map a:[seq str]}", Lens: "{hoist: a}", From: "{a: [x, y]}"},
	{Source: "[seq str]", Lens: "{plunge: a}", From: "[x, y]"},
	{Source: "{map a:$rec b:[seq str]}", Lens: "{lift: a}", From: "{a: {k: x, v: 1}, b: [x, y]}"},
	{Source: "{map a:[seq str] b:int}", Lens: "{sink: {into: k, keys: [a]}}", From: "{a: [x, y], b: 1}"},
	{Source: "[seq (str|int)]", Lens: "{filter: [.str]}", From: "[x, 1, y, 2]"},
	{Source: "{map *:$u}", Lens: "{filter: ['[seq']}", From: "{a: x, b: [x], c: 1, d: [y, z]}"},
	{Source: "{map *:[seq str]}", Lens: "{map: {items: {plunge: k}}}", From: "{a: [x, y], b: [z]}"},
	{Source: "[seq {map *:str}]", Lens: "{items: {map: {plunge: k}}}", From: "[{a: x, b: y}, {c: z}]"},
	{Source: "$k", Lens: "{keyed: {fill: {key: v, value: 0}}}", From: "[{k: x}, {k: y, v: 1}]"},
	{Source: "{map a:[seq str] b:str c?:int}", Lens: "{on: {a: {items: {plunge: k}}, c: {plunge: l}}}", From: "{a: [x, y], b: z, c: 1}"},
	{Source: "(str|[seq str])", Lens: "{union: [{plunge: k}, {items: {plunge: k}}]}", From: "[x, y]"},
	{Source: "{map a:[seq str] b?:str}", Lens: "{fill: {key: b, value: y}}", From: "{a: [x]}"},
	{Source: "$e", Lens: "{translate: {a: b, b: a}}", From: "a"},
	{Source: "$t", Lens: "{use: grow}", From: "[x, [y, [z], []]]"},
}

// P20.1, P20.3: a source of each kind, with one thing changed.
func TestEach(t *testing.T) { each.Each(t, views) }

// P20.1, P20.3: lenses, types and sources as they fall.
func TestFall(t *testing.T) { views.Fall(t, rand.New(rand.NewSource(201)).Intn) }

// P20.1: definitions that lead back to themselves.
func TestDefined(t *testing.T) { views.Defined(t, rand.New(rand.NewSource(202)).Intn) }

// P20.1, P20.3: what a Compose's Kids make, of about as many nodes as there may be.
func TestFull(t *testing.T) { views.Full(t, rand.New(rand.NewSource(203)).Intn) }

// R1, R2: whatever is handed in.
func TestScrap(t *testing.T) { each.Scrap(t, views, rand.New(rand.NewSource(204)).Intn) }

// R1: values and plans of any depth, length and width.
func TestFar(t *testing.T) {
	views.Deep(t)
	views.Long(t)
	views.Wide(t)
}

// R3, R5: what is handed in stays as it is.
func TestHandedIn(t *testing.T) {
	each.HandedIn(t, views, reflect.DeepEqual, func(e check.Env, p check.Plan, v value.Value) { get.Branch(e, p.Source, v.Head()) })
	views.Shared(t)
}

// R4: nil and empty lists are one.
func TestEmpty(t *testing.T) { views.Empty(t) }
