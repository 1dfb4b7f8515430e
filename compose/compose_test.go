package compose_test

import (
	"errors"
	"math"
	"testing"

	"maquette/api"
	"maquette/arena"
	"maquette/compose"
	"maquette/ite"
)

// must is a diagram that there must be room for.
func must(t *testing.T) func(k int, err error) int {
	t.Helper()
	return func(k int, err error) int {
		t.Helper()
		if err != nil {
			t.Fatal(err)
		}
		return k
	}
}

// wantFull holds an answer against 0 and ErrFull without a place.
func wantFull(t *testing.T, k int, err error) {
	t.Helper()
	if k != 0 || !errors.Is(err, api.ErrFull) || api.Place(err) != -1 {
		t.Errorf("got %d, %v; want 0, %v", k, err, api.ErrFull)
	}
}

// table is the diagram of the variables v, v+1, .., whose rows are the low bits of rows, the first variable halving them.
func table(t *testing.T, a *arena.Arena, v, width int, rows uint) int {
	t.Helper()
	if width == 1 {
		return int(rows & 1)
	}
	half := width / 2
	return must(t)(a.Mk(v, table(t, a, v+1, half, rows), table(t, a, v+1, half, rows>>half)))
}

// says is the rows of a diagram of the variables 0, 1 and 2, as table takes them.
func says(a *arena.Arena, k int) uint {
	rows := uint(0)
	for row := range 8 {
		if a.Eval(k, func(v int) bool { return row>>(2-v)&1 == 1 }) {
			rows |= 1 << row
		}
	}
	return rows
}

// put is the rows of a function, where the variable v is what value tells of a row.
func put(rows uint, v int, value func(row int) uint) uint {
	answer, bit := uint(0), 4>>v
	for row := range 8 {
		at := row &^ bit
		if value(row) == 1 {
			at |= bit
		}
		answer |= rows >> at & 1 << row
	}
	return answer
}

// always is a value that all rows have.
func always(value uint) func(row int) uint { return func(int) uint { return value } }

// allOfThree is an arena of the 256 diagrams of three variables, and their numbers by their rows.
func allOfThree(t *testing.T) (*arena.Arena, []int) {
	t.Helper()
	a := arena.Of(api.MaxNodes)
	var all []int
	for rows := range uint(256) {
		all = append(all, table(t, a, 0, 8, rows))
	}
	return a, all
}

// reached is the nodes of a diagram, but NO and YES.
func reached(a *arena.Arena, k int, in map[int]int) {
	if n := a.Get(k); n.Var < arena.Last && in[k] == 0 {
		in[k] = 1
		reached(a, n.Low, in)
		reached(a, n.High, in)
	}
}

// call is one of the functions; those that take less leave g.
type call struct {
	name string
	do   func(a *arena.Arena, f, v, g int) (int, error)
}

func calls() []call {
	return []call{
		{"Restrict to 0", func(a *arena.Arena, f, v, _ int) (int, error) { return compose.Restrict(a, f, v, false) }},
		{"Restrict to 1", func(a *arena.Arena, f, v, _ int) (int, error) { return compose.Restrict(a, f, v, true) }},
		{"Of", compose.Of},
		{"Some", func(a *arena.Arena, f, v, _ int) (int, error) { return compose.Some(a, f, v) }},
	}
}

// wanted is the rows that a call should answer of rows.
func wanted(name string, f uint, v int, g uint) uint {
	low, high := put(f, v, always(0)), put(f, v, always(1))
	switch name {
	case "Restrict to 0":
		return low
	case "Restrict to 1":
		return high
	case "Of":
		return put(f, v, func(row int) uint { return g >> row & 1 })
	}
	return low | high
}

func TestExample(t *testing.T) {
	a := arena.Of(3)
	x := must(t)(a.Variable(7))
	if k, err := compose.Some(a, x, 7); k != 1 || err != nil {
		t.Error(k, err)
	}
	if k, err := compose.Restrict(a, x, 7, true); k != 1 || err != nil {
		t.Error(k, err)
	}
	if k, err := compose.Restrict(a, x, 7, false); k != 0 || err != nil {
		t.Error(k, err)
	}
	if k, err := compose.Of(a, x, 7, x); k != x || err != nil {
		t.Error(k, err)
	}
	if k, err := compose.Some(a, 0, 7); k != 0 || err != nil {
		t.Error(k, err)
	}
}

// In an arena that has them all, the answer is a number that is known beforehand, and no node is made.
func TestAllOfThreeVariables(t *testing.T) {
	a, all := allOfThree(t)
	there := a.Len()
	for _, c := range calls() {
		others := 256
		if c.name != "Of" {
			others = 1
		}
		for f := range uint(256) {
			for v := range 3 {
				for g := range uint(others) {
					want := all[wanted(c.name, f, v, g)]
					if k, err := c.do(a, all[f], v, all[g]); k != want || err != nil {
						t.Fatalf("%s: %08b, %d, %08b: %d, %v; want %d", c.name, f, v, g, k, err, want)
					}
				}
			}
		}
	}
	if a.Len() != there {
		t.Errorf("%d nodes were made", a.Len()-there)
	}
}

// Where there is room for the answer's own nodes it is made; where there is room for one less it is ErrFull.
func TestRoom(t *testing.T) {
	needed := 0
	for step := range 1000 {
		mixed := uint64(step+1) * 0x9e3779b97f4a7c15
		f, g, v := uint(mixed>>56), uint(mixed>>48&255), int(mixed>>40%3)
		for _, c := range calls() {
			two := func(a *arena.Arena) (int, int) { return table(t, a, 0, 8, f), table(t, a, 0, 8, g) }
			want := wanted(c.name, f, v, g)
			a := arena.Of(api.MaxNodes)
			two(a)
			there := a.Len()
			in := map[int]int{}
			reached(a, table(t, a, 0, 8, want), in)
			need := there
			for n := range in {
				if n >= there {
					need++
				}
			}
			b := arena.Of(need)
			x, y := two(b)
			if k, err := c.do(b, x, v, y); err != nil || says(b, k) != want {
				t.Fatalf("%s: %08b, %d, %08b with room for it: %d, %v", c.name, f, v, g, k, err)
			}
			if need == there {
				continue
			}
			needed++
			b = arena.Of(need - 1)
			x, y = two(b)
			for range 2 {
				k, err := c.do(b, x, v, y)
				wantFull(t, k, err)
			}
			if says(b, x) != f || says(b, y) != g {
				t.Fatal("what was there is another one")
			}
		}
	}
	if needed == 0 {
		t.Error("no answer needs a node")
	}
}

// f is z, where x is 0; y and z, where it is 1.
func TestFullArena(t *testing.T) {
	const x, y, z, full = 0, 1, 2, -1
	a := arena.Of(5)
	last := must(t)(a.Variable(z))
	both := must(t)(a.Mk(y, 0, last))
	f := must(t)(a.Mk(x, last, both))
	restrict := func(v int, one bool) func() (int, error) {
		return func() (int, error) { return compose.Restrict(a, f, v, one) }
	}
	of := func(v, g int) func() (int, error) {
		return func() (int, error) { return compose.Of(a, f, v, g) }
	}
	some := func(v int) func() (int, error) {
		return func() (int, error) { return compose.Some(a, f, v) }
	}
	for _, w := range []struct {
		name string
		do   func() (int, error)
		want int
	}{
		{"x is 0", restrict(x, false), last},
		{"x is 1", restrict(x, true), both},
		{"y is 0", restrict(y, false), full},
		{"y is 1", restrict(y, true), last},
		{"z is 0", restrict(z, false), 0},
		{"z is 1", restrict(z, true), full},
		{"x is NO", of(x, 0), last},
		{"x is z", of(x, last), both},
		{"y is NO", of(y, 0), full},
		{"y is z", of(y, last), last},
		{"y is f", of(y, f), f},
		{"z is YES", of(z, 1), full},
		{"z is z", of(z, last), f},
		{"some x", some(x), last},
		{"some y", some(y), last},
		{"some z", some(z), full},
	} {
		k, err := w.do()
		if w.want == full {
			wantFull(t, k, err)
		} else if k != w.want || err != nil {
			t.Errorf("%s: %d, %v; want %d", w.name, k, err, w.want)
		}
	}
	if a.Len() != 5 {
		t.Error(a.Len())
	}
}

// A variable that is not asked may be whatever it is: also one that no diagram can ask, and the one that NO and YES have.
func TestVariablesThatAreNotAsked(t *testing.T) {
	a := arena.Of(api.MaxNodes)
	last := must(t)(a.Variable(arena.Last - 1))
	mid := must(t)(a.Mk(6, 1, last))
	f := must(t)(a.Mk(3, last, mid))
	g := must(t)(a.Mk(2, mid, last))
	there := a.Len()
	for _, v := range []int{math.MinInt, -arena.Last, -1, 0, 2, 4, 5, 7, arena.Last - 2, arena.Last, arena.Last + 1, 1 << 20, math.MaxInt} {
		for _, c := range calls() {
			for _, d := range []int{0, 1, last, mid, f} {
				for _, other := range []int{0, 1, g, f} {
					if k, err := c.do(a, d, v, other); k != d || err != nil {
						t.Errorf("%s: %d, %d, %d: %d, %v", c.name, d, v, other, k, err)
					}
				}
			}
		}
	}
	if a.Len() != there {
		t.Errorf("%d nodes were made", a.Len()-there)
	}
}

// Variables that are far apart, the first one and the last one too, in all orders of what is put for which.
func TestOrdersOfVariables(t *testing.T) {
	far := []int{0, 500, arena.Last - 1}
	for _, order := range [][3]int{{0, 1, 2}, {0, 2, 1}, {1, 0, 2}, {1, 2, 0}, {2, 0, 1}, {2, 1, 0}} {
		a := arena.Of(api.MaxNodes)
		p, q, r := far[order[0]], far[order[1]], far[order[2]]
		x, y, z := must(t)(a.Variable(p)), must(t)(a.Variable(q)), must(t)(a.Variable(r))
		f := must(t)(ite.Xor(a, x, y))
		g := must(t)(ite.And(a, x, z))
		one := must(t)(compose.Restrict(a, f, p, true))
		zero := must(t)(compose.Restrict(a, f, p, false))
		of := must(t)(compose.Of(a, f, p, z))
		self := must(t)(compose.Of(a, f, p, g))
		some := must(t)(compose.Some(a, g, p))
		any := must(t)(compose.Some(a, f, p))
		for row := range 8 {
			is := func(v int) bool {
				return v == p && row&1 != 0 || v == q && row&2 != 0 || v == r && row&4 != 0
			}
			for _, w := range []struct {
				name string
				k    int
				want bool
			}{
				{"one", one, !is(q)},
				{"zero", zero, is(q)},
				{"of", of, is(r) != is(q)},
				{"self", self, (is(p) && is(r)) != is(q)},
				{"some", some, is(r)},
				{"any", any, true},
			} {
				if got := a.Eval(w.k, is); got != w.want {
					t.Errorf("order %v, row %d: %s says %v", order, row, w.name, got)
				}
			}
		}
	}
}

func TestNumbersOfNoNodeCountAsNo(t *testing.T) {
	a := arena.Of(api.MaxNodes)
	y := must(t)(a.Variable(2))
	f := must(t)(a.Mk(1, y, 1))
	there := a.Len()
	for _, none := range []int{math.MinInt, -1, a.Len(), a.Len() + 1, api.MaxNodes, math.MaxInt} {
		for _, v := range []int{math.MinInt, -1, 0, 1, 2, arena.Last, math.MaxInt} {
			for _, c := range calls() {
				for _, g := range []int{0, 1, f, none} {
					if k, err := c.do(a, none, v, g); k != 0 || err != nil {
						t.Errorf("%s: %d, %d, %d: %d, %v", c.name, none, v, g, k, err)
					}
				}
			}
		}
		if k, err := compose.Of(a, f, 1, none); k != y || err != nil {
			t.Errorf("none is %d: %d, %v", none, k, err)
		}
		if k, err := compose.Of(a, y, 2, none); k != 0 || err != nil {
			t.Errorf("none is %d: %d, %v", none, k, err)
		}
	}
	if a.Len() != there {
		t.Errorf("%d nodes were made", a.Len()-there)
	}
}

// A number that is no node's counts as NO to the end, also where a node that gets that number is made meanwhile.
func TestNumbersThatNewNodesGet(t *testing.T) {
	for next := range 4 {
		a := arena.Of(api.MaxNodes)
		z := must(t)(a.Variable(7))
		not := must(t)(a.Mk(7, 1, 0))
		low := must(t)(a.Mk(5, z, 1))
		high := must(t)(a.Mk(5, 0, not))
		mid := must(t)(a.Mk(3, low, high))
		f := must(t)(a.Mk(2, mid, low))
		k := must(t)(compose.Of(a, f, 7, a.Len()+next))
		want := must(t)(compose.Of(a, f, 7, 0))
		if k != want {
			t.Errorf("next %d: %d; want %d", next, k, want)
		}
		for row := range 16 {
			is := func(v int) bool {
				return v == 2 && row&1 != 0 || v == 3 && row&2 != 0 || v == 5 && row&4 != 0 || v == 7 && row&8 != 0
			}
			if got, want := a.Eval(k, is), a.Eval(f, func(v int) bool { return v != 7 && is(v) }); got != want {
				t.Errorf("next %d, row %d: %v", next, row, got)
			}
		}
	}
}

func TestNothingIsMadeOfNoAndYesAndNoNode(t *testing.T) {
	for _, most := range []int{2, 10} {
		a := arena.Of(most)
		numbers := []int{0, 1, 2, 9, 10, -1, math.MinInt, math.MaxInt}
		for _, c := range calls() {
			for _, f := range numbers {
				for _, v := range append(numbers, arena.Last-1, arena.Last) {
					for _, g := range numbers {
						want := 0
						if f == 1 {
							want = 1
						}
						if k, err := c.do(a, f, v, g); k != want || err != nil {
							t.Errorf("%s: %d, %d, %d: %d, %v; want %d", c.name, f, v, g, k, err, want)
						}
					}
				}
			}
		}
		if a.Len() != 2 {
			t.Errorf("%d nodes were made", a.Len()-2)
		}
	}
}

// The ways through these are 2 to the power of 1024, their nodes two a variable: what was done must be remembered.
func TestManyWaysFewNodes(t *testing.T) {
	a := arena.Of(api.MaxNodes)
	odd := 0
	for v := arena.Last - 1; v >= 0; v-- {
		odd = must(t)(ite.Xor(a, must(t)(a.Variable(v)), odd))
	}
	even := must(t)(ite.Not(a, odd))
	for _, v := range []int{0, 1, 511, arena.Last - 2, arena.Last - 1} {
		x := must(t)(a.Variable(v))
		not := must(t)(ite.Not(a, x))
		zero := must(t)(ite.Xor(a, odd, x))
		one := must(t)(ite.Not(a, zero))
		for _, w := range []struct{ got, want int }{
			{must(t)(compose.Restrict(a, odd, v, false)), zero},
			{must(t)(compose.Restrict(a, odd, v, true)), one},
			{must(t)(compose.Of(a, odd, v, x)), odd},
			{must(t)(compose.Of(a, odd, v, not)), even},
			{must(t)(compose.Of(a, odd, v, odd)), x},
			{must(t)(compose.Of(a, odd, v, even)), not},
			{must(t)(compose.Of(a, odd, v, zero)), 0},
			{must(t)(compose.Of(a, odd, v, one)), 1},
			{must(t)(compose.Some(a, odd, v)), 1},
			{must(t)(compose.Some(a, zero, v)), zero},
		} {
			if w.got != w.want {
				t.Errorf("variable %d: %d; want %d", v, w.got, w.want)
			}
		}
	}
}

// counter makes diagrams that say whether so many of some variables are 1.
type counter struct {
	a    *arena.Arena
	vars []int
	made map[[2]int]int
}

// atLeast is whether so many of the variables from vars[i] on are 1.
func (c *counter) atLeast(t *testing.T, i, ones int) int {
	t.Helper()
	switch {
	case ones <= 0:
		return 1
	case ones > len(c.vars)-i:
		return 0
	}
	k, ok := c.made[[2]int{i, ones}]
	if !ok {
		k = must(t)(c.a.Mk(c.vars[i], c.atLeast(t, i+1, ones), c.atLeast(t, i+1, ones-1)))
		c.made[[2]int{i, ones}] = k
	}
	return k
}

// half is the diagram that says whether half of so many variables are 1, which begin at first and are some steps apart.
func half(t *testing.T, a *arena.Arena, first, many, step int) int {
	t.Helper()
	c := &counter{a: a, made: map[[2]int]int{}}
	for i := range many {
		c.vars = append(c.vars, first+i*step)
	}
	return c.atLeast(t, 0, many/2)
}

// Many nodes ask the variable, and all of them go on to the same ones, which must be gone through once, not once for each.
func TestManyNodesAskTheVariable(t *testing.T) {
	const most = 400
	a := arena.Of(api.MaxNodes)
	f := half(t, a, 0, most, 1)
	last := must(t)(a.Variable(most - 1))
	v := most / 2
	of := must(t)(compose.Of(a, f, v, last))
	some := must(t)(compose.Some(a, f, v))
	one := must(t)(compose.Restrict(a, f, v, true))
	if some != one {
		t.Errorf("some: %d; with 1: %d", some, one)
	}
	for step := range 200 {
		mixed := uint64(step+1) * 0x9e3779b97f4a7c15
		is := func(u int) bool { return mixed>>(u%61)&1 == 1 }
		ones := 0
		for u := range most {
			if u != v && is(u) {
				ones++
			}
		}
		if got := a.Eval(one, is); got != (ones+1 >= most/2) {
			t.Errorf("%d ones and one: %v", ones, got)
		}
		if is(most - 1) {
			ones++
		}
		if got := a.Eval(of, is); got != (ones >= most/2) {
			t.Errorf("%d ones: %v", ones, got)
		}
	}
}

// Where the variable is not to come any more, what stands for it need not be gone through: together with f's part without it that would be some ten millions of steps.
func TestPartsThatDoNotAskTheVariable(t *testing.T) {
	a := arena.Of(api.MaxNodes)
	other := half(t, a, 1, 400, 2)
	g := half(t, a, 2, 400, 2)
	x := must(t)(a.Variable(1000))
	f := must(t)(a.Mk(0, x, other))
	k := must(t)(compose.Of(a, f, 1000, g))
	if want := must(t)(a.Mk(0, g, other)); k != want {
		t.Errorf("%d; want %d", k, want)
	}
}

func TestSameQuestionSameDiagram(t *testing.T) {
	a := arena.Of(api.MaxNodes)
	x := must(t)(a.Variable(4))
	y := must(t)(a.Variable(2))
	z := must(t)(a.Variable(8))
	f := must(t)(ite.Of(a, x, y, z))
	g := must(t)(ite.Xor(a, y, z))
	for _, c := range calls() {
		first := must(t)(c.do(a, f, 4, g))
		there := a.Len()
		if again := must(t)(c.do(a, f, 4, g)); again != first || a.Len() != there {
			t.Errorf("%s: %d, %d, and %d nodes more", c.name, first, again, a.Len()-there)
		}
	}
	low := must(t)(compose.Restrict(a, f, 2, false))
	high := must(t)(compose.Restrict(a, f, 2, true))
	if one, other := must(t)(ite.Of(a, g, high, low)), must(t)(compose.Of(a, f, 2, g)); one != other {
		t.Error(one, other)
	}
	if one, other := must(t)(ite.Or(a, low, high)), must(t)(compose.Some(a, f, 2)); one != other {
		t.Error(one, other)
	}
}

func TestArenaThatNobodyMade(t *testing.T) {
	for _, c := range calls() {
		for _, v := range []int{-1, 4, arena.Last} {
			var a arena.Arena
			if _, err := c.do(&a, 3, v, 5); err != nil || a.Len() != 0 {
				t.Error(c.name, err, a.Len())
			}
		}
	}
}
