package trial_test

import (
	"math/rand"
	"reflect"
	"testing"

	"stanhope/api"
	"stanhope/carve"
	"stanhope/check"
	"stanhope/get"
	"stanhope/gist"
	"stanhope/lens"
	"stanhope/trial"
	"stanhope/value"
)

// told is a test that ends where anything is told.
type told struct{}

func (told) Helper()               {}
func (told) Errorf(string, ...any) { panic(told{}) }
func (told) Fatalf(string, ...any) { panic(told{}) }

// tells says whether anything is told.
func tells(of func(t trial.T)) (yes bool) {
	defer func() {
		if e := recover(); e != nil {
			_, yes = e.(told)
			if !yes {
				panic(e)
			}
		}
	}()
	of(told{})
	return false
}

// right is a way that is right.
var right = trial.Way{
	Run:    get.Run,
	Bare:   get.Bare,
	Plain:  gist.Get,
	Law:    func(check.Env, check.Plan, value.Value, value.Value) string { return "" },
	Passes: []lens.Kind{lens.Id, lens.Copy, lens.Const, lens.Compose, lens.Hoist, lens.Union, lens.Use},
}

// both is a way whose calls are alike.
func both(call trial.Call) trial.Way {
	w := right
	w.Run, w.Bare = call, call
	return w
}

// rows are some that are right.
var rows = trial.Rows{
	{"{map a:str b:int}", "{project: {keep: [a], default: {b: 0}}}", "{a: x, b: 1}", "{a: x}"},
	{"[seq str]", "{items: {plunge: k}}", "[x, y]", "[{k: x}, {k: y}]"},
	{"$t", "{use: grow}", "[x, [y]]", "[{k: x}, [{k: y}]]"},
	{"{map a:$rec}", "{on: {a: {use: fill}}}", "{a: {k: x}}", "{a: {k: x, v: 0}}"},
	{"[seq str]", "id", "[x, y, z]", "[x, y, z]"},
	{"{map a:str b:str c:str}", "{rename: {a: b, b: a}}", "{a: x, b: y, c: z}", "{a: y, b: x, c: z}"},
}

// bads are values that aren't handed to a plan.
var bads = trial.Bads{{"str", "id", []string{"1", "[]"}}}

// counts are some that are right.
var counts = trial.Counts{{"[seq str]", "{compose: [id]}", trial.Scalars, 4096}, {"[seq str]", "id", trial.Scalars, 0}}

// pick picks by a number.
func pick(seed int64) func(int) int { return rand.New(rand.NewSource(seed)).Intn }

// trials are all that is held.
var trials = map[string]func(trial.T, trial.Way){
	"rows":    func(t trial.T, w trial.Way) { rows.Hold(t, w) },
	"each":    func(t trial.T, w trial.Way) { rows.Each(t, w) },
	"bads":    func(t trial.T, w trial.Way) { bads.Hold(t, w) },
	"counts":  func(t trial.T, w trial.Way) { counts.Hold(t, w) },
	"fall":    func(t trial.T, w trial.Way) { w.Fall(t, pick(1)) },
	"defined": func(t trial.T, w trial.Way) { w.Defined(t, pick(2)) },
	"full":    func(t trial.T, w trial.Way) { w.Full(t, pick(3)) },
	"scrap":   func(t trial.T, w trial.Way) { rows.Scrap(t, w, pick(4)) },
	"handed": func(t trial.T, w trial.Way) {
		rows.HandedIn(t, w, reflect.DeepEqual, func(check.Env, check.Plan, value.Value) {})
	},
	"shared": func(t trial.T, w trial.Way) { w.Shared(t) },
	"empty":  func(t trial.T, w trial.Way) { w.Empty(t) },
	"long":   func(t trial.T, w trial.Way) { w.Long(t) },
}

// What is right is told nothing of; what isn't is told by all trials that ask for it.
func TestTrials(t *testing.T) {
	lawful, noisy := right, right
	lawful.Law = func(check.Env, check.Plan, value.Value, value.Value) string { return "wrong" }
	noisy.Passes = nil
	apart := right
	apart.Bare = func(e check.Env, p check.Plan, v value.Value) (value.Value, api.Errno) { return v, api.OK }
	for _, c := range []struct {
		what string
		way  trial.Way
		by   []string
	}{
		{"right", right, nil},
		{"a law that isn't kept", lawful, []string{"rows", "each", "counts", "fall", "defined", "full", "handed", "shared", "empty", "long"}},
		{"unlike calls", apart, []string{"rows", "each", "fall", "defined", "full", "handed", "shared"}},
		{"what plays no part", noisy, []string{"rows"}},
		{"the value itself", both(func(e check.Env, p check.Plan, v value.Value) (value.Value, api.Errno) { return v, api.OK }),
			[]string{"rows", "each", "bads", "counts", "fall", "defined", "full", "handed", "shared", "long"}},
		{"an error of all", both(func(check.Env, check.Plan, value.Value) (value.Value, api.Errno) { return value.Value{}, api.ErrType }),
			[]string{"rows", "each", "counts", "fall", "defined", "full", "handed", "shared", "empty", "long", "scrap"}},
		{"too many nodes that aren't told", both(func(e check.Env, p check.Plan, v value.Value) (value.Value, api.Errno) {
			if w, n := get.Run(e, p, v); n != api.ErrNodes {
				return w, n
			}
			w, _ := gist.Get(e, p, v)
			return w, api.OK
		}), []string{"counts", "full", "long"}},
		{"something beside an error", both(func(e check.Env, p check.Plan, v value.Value) (value.Value, api.Errno) {
			w, n := get.Run(e, p, v)
			w.Kind = max(w.Kind, 1)
			return w, n
		}), []string{"each", "bads", "counts", "fall", "full", "scrap", "long"}},
		{"another error", both(func(e check.Env, p check.Plan, v value.Value) (value.Value, api.Errno) {
			w, n := get.Run(e, p, v)
			if n != api.OK {
				n = api.ErrShape
			}
			return w, n
		}), []string{"each", "bads", "counts", "fall", "full", "scrap", "long"}},
		{"what is written into", both(func(e check.Env, p check.Plan, v value.Value) (value.Value, api.Errno) {
			w, n := get.Run(e, p, v)
			if len(v.Kids) > 1 {
				v.Kids[0] = v.Kids[1]
			}
			return w, n
		}), []string{"handed"}},
		{"what is written behind an end", both(func(e check.Env, p check.Plan, v value.Value) (value.Value, api.Errno) {
			_ = append(v.Kids, carve.Str("written"))
			return get.Run(e, p, v)
		}), []string{"handed"}},
		{"what is written into a plan", both(func(e check.Env, p check.Plan, v value.Value) (value.Value, api.Errno) {
			w, n := get.Run(e, p, v)
			_ = append(p.Lens.Words, "written")
			return w, n
		}), []string{"handed"}},
	} {
		for _, by := range c.by {
			if trials[by] == nil || !tells(func(t trial.T) { trials[by](t, c.way) }) {
				t.Errorf("%s isn't told by %s", c.what, by)
			}
		}
		for by, of := range trials {
			if c.by == nil && tells(func(t trial.T) { of(t, c.way) }) {
				t.Errorf("%s is told by %s", c.what, by)
			}
		}
	}
}

// Leaves are counted.
func TestMore(t *testing.T) {
	l := []string{"x", "!leaf 1", "[!leaf 1, !leaf 1]", "[!leaf 1, [!leaf 2]]", "{a: !leaf 1, b: !leaf 1, c: {d: !leaf 2}}"}
	for i, a := range l {
		for j, b := range l {
			if more := trial.More(carve.Value(a), carve.Value(b)); more != (i > j || i == 2 && j == 3) {
				t.Errorf("%s and %s: %v", a, b, more)
			}
		}
	}
}
