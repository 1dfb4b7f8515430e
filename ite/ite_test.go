package ite_test

import (
	"errors"
	"math"
	"testing"

	"maquette/api"
	"maquette/arena"
	"maquette/ite"
)

// must is a diagram that there must be room for.
func must(t *testing.T) func(k int, err error) int {
	t.Helper()
	return func(k int, err error) int {
		t.Helper()
		if err != nil {
			t.Fatal(err)
		}
		return k
	}
}

// wantFull holds an answer against 0 and ErrFull without a place.
func wantFull(t *testing.T, k int, err error) {
	t.Helper()
	if k != 0 || !errors.Is(err, api.ErrFull) || api.Place(err) != -1 {
		t.Errorf("got %d, %v; want 0, %v", k, err, api.ErrFull)
	}
}

// table is the diagram of the variables v, v+1, .., whose rows are the low bits of rows, the first variable halving them.
func table(t *testing.T, a *arena.Arena, v, width int, rows uint) int {
	t.Helper()
	if width == 1 {
		return int(rows & 1)
	}
	half := width / 2
	return must(t)(a.Mk(v, table(t, a, v+1, half, rows), table(t, a, v+1, half, rows>>half)))
}

// says is the rows of a diagram of the variables 0, 1 and 2, as table takes them.
func says(a *arena.Arena, k int) uint {
	rows := uint(0)
	for row := range 8 {
		if a.Eval(k, func(v int) bool { return row>>(2-v)&1 == 1 }) {
			rows |= 1 << row
		}
	}
	return rows
}

// allOfThree is an arena of the 256 diagrams of three variables, and their numbers by their rows.
func allOfThree(t *testing.T) (*arena.Arena, []int) {
	t.Helper()
	a := arena.Of(api.MaxNodes)
	var all []int
	for rows := range uint(256) {
		all = append(all, table(t, a, 0, 8, rows))
	}
	return a, all
}

// reached is the nodes of a diagram, but NO and YES.
func reached(a *arena.Arena, k int, in map[int]int) {
	if n := a.Get(k); n.Var < arena.Last && in[k] == 0 {
		in[k] = 1
		reached(a, n.Low, in)
		reached(a, n.High, in)
	}
}

func TestExample(t *testing.T) {
	a := arena.Of(api.MaxNodes)
	x := must(t)(a.Variable(5))
	not := must(t)(ite.Not(a, x))
	if k, err := ite.And(a, x, not); k != 0 || err != nil {
		t.Error(k, err)
	}
	if k, err := ite.Or(a, x, not); k != 1 || err != nil {
		t.Error(k, err)
	}
	if k, err := ite.Xor(a, x, not); k != 1 || err != nil {
		t.Error(k, err)
	}
	if k, err := ite.Not(a, not); k != x || err != nil {
		t.Error(k, err)
	}
}

func TestOfNoAndYes(t *testing.T) {
	a := arena.Of(2)
	for bits := range 8 {
		f, g, h := bits&1, bits>>1&1, bits>>2&1
		want := h
		if f == 1 {
			want = g
		}
		if k, err := ite.Of(a, f, g, h); k != want || err != nil {
			t.Errorf("Of(%d, %d, %d): %d, %v", f, g, h, k, err)
		}
		if k, err := ite.Not(a, f); k != 1-f || err != nil {
			t.Errorf("Not(%d): %d, %v", f, k, err)
		}
		if k, err := ite.And(a, f, g); k != f&g || err != nil {
			t.Errorf("And(%d, %d): %d, %v", f, g, k, err)
		}
		if k, err := ite.Or(a, f, g); k != f|g || err != nil {
			t.Errorf("Or(%d, %d): %d, %v", f, g, k, err)
		}
		if k, err := ite.Xor(a, f, g); k != f^g || err != nil {
			t.Errorf("Xor(%d, %d): %d, %v", f, g, k, err)
		}
	}
}

// In an arena that has them all, the answer is a number that is known beforehand, and no node is made.
func TestTwoOfThreeVariables(t *testing.T) {
	a, all := allOfThree(t)
	there := a.Len()
	for f := range 256 {
		if k, err := ite.Not(a, all[f]); k != all[255^f] || err != nil {
			t.Fatalf("Not of %08b: %d, %v", f, k, err)
		}
		for g := range 256 {
			if k, err := ite.And(a, all[f], all[g]); k != all[f&g] || err != nil {
				t.Fatalf("And of %08b, %08b: %d, %v", f, g, k, err)
			}
			if k, err := ite.Or(a, all[f], all[g]); k != all[f|g] || err != nil {
				t.Fatalf("Or of %08b, %08b: %d, %v", f, g, k, err)
			}
			if k, err := ite.Xor(a, all[f], all[g]); k != all[f^g] || err != nil {
				t.Fatalf("Xor of %08b, %08b: %d, %v", f, g, k, err)
			}
		}
	}
	if a.Len() != there {
		t.Errorf("%d nodes were made", a.Len()-there)
	}
}

func TestOfThreeVariables(t *testing.T) {
	a, all := allOfThree(t)
	there := a.Len()
	for step := range 60000 {
		mixed := uint64(step+1) * 0x9e3779b97f4a7c15
		f, g, h := int(mixed>>56), int(mixed>>48&255), int(mixed>>40&255)
		want := f&g | (255^f)&h
		if k, err := ite.Of(a, all[f], all[g], all[h]); k != all[want] || err != nil {
			t.Fatalf("Of %08b, %08b, %08b: %d, %v", f, g, h, k, err)
		}
	}
	if a.Len() != there {
		t.Errorf("%d nodes were made", a.Len()-there)
	}
}

// Variables that are far apart, in all orders of who asks first.
func TestOrdersOfVariables(t *testing.T) {
	far := []int{0, 500, arena.Last - 1}
	for _, order := range [][3]int{{0, 1, 2}, {0, 2, 1}, {1, 0, 2}, {1, 2, 0}, {2, 0, 1}, {2, 1, 0}} {
		a := arena.Of(api.MaxNodes)
		var d [3]int
		for i, o := range order {
			d[i] = must(t)(a.Variable(far[o]))
		}
		k := must(t)(ite.Of(a, d[0], d[1], d[2]))
		xor := must(t)(ite.Xor(a, d[0], must(t)(ite.Xor(a, d[1], d[2]))))
		for row := range 8 {
			is := func(v int) bool {
				return v == far[0] && row&1 != 0 || v == far[1] && row&2 != 0 || v == far[2] && row&4 != 0
			}
			f, g, h := is(far[order[0]]), is(far[order[1]]), is(far[order[2]])
			if got := a.Eval(k, is); got != (f && g || !f && h) {
				t.Errorf("order %v, row %d: Of says %v", order, row, got)
			}
			if got := a.Eval(xor, is); got != (f != (g != h)) {
				t.Errorf("order %v, row %d: Xor says %v", order, row, got)
			}
		}
	}
}

func TestNumbersOfNoNodeCountAsNo(t *testing.T) {
	a := arena.Of(api.MaxNodes)
	x := must(t)(a.Variable(1))
	y := must(t)(a.Variable(2))
	for _, none := range []int{math.MinInt, -1, a.Len(), a.Len() + 1, api.MaxNodes, math.MaxInt} {
		there := a.Len()
		want := func(name string, want int) func(k int, err error) {
			return func(k int, err error) {
				t.Helper()
				if k != want || err != nil {
					t.Errorf("none is %d: %s: %d, %v; want %d", none, name, k, err, want)
				}
			}
		}
		want("Of(none, x, y)", y)(ite.Of(a, none, x, y))
		want("Of(none, none, none)", 0)(ite.Of(a, none, none, none))
		want("Of(1, none, x)", 0)(ite.Of(a, 1, none, x))
		want("Of(0, x, none)", 0)(ite.Of(a, 0, x, none))
		want("Of(x, 1, none)", x)(ite.Of(a, x, 1, none))
		want("Of(x, none, none)", 0)(ite.Of(a, x, none, none))
		want("Not(none)", 1)(ite.Not(a, none))
		want("And(none, x)", 0)(ite.And(a, none, x))
		want("And(x, none)", 0)(ite.And(a, x, none))
		want("And(none, none)", 0)(ite.And(a, none, none))
		want("Or(none, x)", x)(ite.Or(a, none, x))
		want("Or(x, none)", x)(ite.Or(a, x, none))
		want("Or(1, none)", 1)(ite.Or(a, 1, none))
		want("Or(none, none)", 0)(ite.Or(a, none, none))
		want("Xor(none, x)", x)(ite.Xor(a, none, x))
		want("Xor(x, none)", x)(ite.Xor(a, x, none))
		want("Xor(none, 1)", 1)(ite.Xor(a, none, 1))
		want("Xor(none, none)", 0)(ite.Xor(a, none, none))
		if a.Len() != there {
			t.Errorf("none is %d: %d nodes were made", none, a.Len()-there)
		}
	}
}

// A number that is no node's counts as NO to the end, also where a node that gets that number is made meanwhile.
func TestNumbersThatNewNodesGet(t *testing.T) {
	for next := range 4 {
		a := arena.Of(api.MaxNodes)
		low := must(t)(a.Variable(7))
		high := must(t)(a.Mk(7, 1, 0))
		x := must(t)(a.Mk(3, low, high))
		none := a.Len() + next
		k := must(t)(ite.Of(a, x, none, 1))
		if want := must(t)(a.Mk(3, high, low)); k != want {
			t.Errorf("next %d: Of(x, none, 1): %d; want %d", next, k, want)
		}

		b := arena.Of(api.MaxNodes)
		p := must(t)(b.Variable(3))
		q := must(t)(b.Variable(5))
		none = b.Len() + next
		k = must(t)(ite.Of(b, p, none, q))
		if want := must(t)(b.Mk(3, q, 0)); k != want {
			t.Errorf("next %d: Of(p, none, q): %d; want %d", next, k, want)
		}

		c := arena.Of(api.MaxNodes)
		r := must(t)(c.Variable(3))
		if k := must(t)(ite.Xor(c, r, c.Len()+next)); k != r {
			t.Errorf("next %d: Xor(r, none): %d; want %d", next, k, r)
		}
	}
}

func TestNothingIsMadeOfNoAndYesAndNoNode(t *testing.T) {
	for _, most := range []int{2, 10} {
		a := arena.Of(most)
		numbers := []int{0, 1, 2, 9, 10, -1, math.MinInt, math.MaxInt}
		for _, f := range numbers {
			for _, g := range numbers {
				for _, h := range numbers {
					want := h
					if f == 1 {
						want = g
					}
					if want != 1 {
						want = 0
					}
					if k, err := ite.Of(a, f, g, h); k != want || err != nil {
						t.Errorf("Of(%d, %d, %d): %d, %v; want %d", f, g, h, k, err, want)
					}
				}
				for _, two := range []func(*arena.Arena, int, int) (int, error){ite.And, ite.Or, ite.Xor} {
					if k, err := two(a, f, g); k < 0 || k > 1 || err != nil {
						t.Errorf("of %d, %d: %d, %v", f, g, k, err)
					}
				}
			}
			if k, err := ite.Not(a, f); k < 0 || k > 1 || err != nil {
				t.Errorf("Not(%d): %d, %v", f, k, err)
			}
		}
		if a.Len() != 2 {
			t.Errorf("%d nodes were made", a.Len()-2)
		}
	}
}

// call is one of the functions, of three diagrams at most.
type call struct {
	name string
	do   func(a *arena.Arena, f, g, h int) (int, error)
}

func calls() []call {
	return []call{
		{"Of", ite.Of},
		{"Not", func(a *arena.Arena, f, _, _ int) (int, error) { return ite.Not(a, f) }},
		{"And", func(a *arena.Arena, f, g, _ int) (int, error) { return ite.And(a, f, g) }},
		{"Or", func(a *arena.Arena, f, g, _ int) (int, error) { return ite.Or(a, f, g) }},
		{"Xor", func(a *arena.Arena, f, g, _ int) (int, error) { return ite.Xor(a, f, g) }},
	}
}

// Where there is room for the diagram's own nodes it is made; where there is room for one less it is ErrFull.
func TestRoom(t *testing.T) {
	for step := range 400 {
		mixed := uint64(step+1) * 0x9e3779b97f4a7c15
		f, g, h := uint(mixed>>56), uint(mixed>>48&255), uint(mixed>>40&255)
		for _, c := range calls() {
			three := func(a *arena.Arena) (int, int, int) {
				return table(t, a, 0, 8, f), table(t, a, 0, 8, g), table(t, a, 0, 8, h)
			}
			a := arena.Of(api.MaxNodes)
			x, y, z := three(a)
			there := a.Len()
			k := must(t)(c.do(a, x, y, z))
			want := says(a, k)
			in := map[int]int{}
			reached(a, k, in)
			need := there
			for n := range in {
				if n >= there {
					need++
				}
			}
			b := arena.Of(need)
			x, y, z = three(b)
			if k, err := c.do(b, x, y, z); err != nil || says(b, k) != want {
				t.Fatalf("%s of %08b, %08b, %08b with room for it: %d, %v", c.name, f, g, h, k, err)
			}
			if need == there {
				continue
			}
			b = arena.Of(need - 1)
			x, y, z = three(b)
			for range 2 {
				k, err := c.do(b, x, y, z)
				wantFull(t, k, err)
			}
			if says(b, x) != f || says(b, y) != g || says(b, z) != h {
				t.Fatal("what was there is another one")
			}
		}
	}
}

func TestFullArenaAnswersWhatIsThere(t *testing.T) {
	a := arena.Of(5)
	x := must(t)(a.Variable(0))
	y := must(t)(a.Variable(1))
	both := must(t)(ite.And(a, x, y))
	if a.Len() != 5 {
		t.Fatal(a.Len())
	}
	for _, c := range calls() {
		if c.name == "And" {
			continue
		}
		k, err := c.do(a, x, y, both)
		if c.name == "Of" {
			if k != both || err != nil {
				t.Error(c.name, k, err)
			}
			continue
		}
		wantFull(t, k, err)
	}
	if k, err := ite.And(a, y, x); k != both || err != nil {
		t.Error(k, err)
	}
	if k, err := ite.Or(a, both, x); k != x || err != nil {
		t.Error(k, err)
	}
	if k, err := ite.Xor(a, both, both); k != 0 || err != nil {
		t.Error(k, err)
	}
	if k, err := ite.Xor(a, 0, both); k != both || err != nil {
		t.Error(k, err)
	}
	if k, err := ite.Xor(a, both, 0); k != both || err != nil {
		t.Error(k, err)
	}
}

// The ways through these are 2 to the power of 1024, their nodes two a variable: what was done must be remembered.
func TestManyWaysFewNodes(t *testing.T) {
	a := arena.Of(api.MaxNodes)
	odd, all := 0, 1
	for v := arena.Last - 1; v >= 0; v-- {
		odd = must(t)(ite.Xor(a, must(t)(a.Variable(v)), odd))
		all = must(t)(ite.And(a, all, must(t)(a.Variable(v))))
	}
	even := must(t)(ite.Not(a, odd))
	for _, w := range []struct{ got, want int }{
		{must(t)(ite.And(a, odd, even)), 0},
		{must(t)(ite.Or(a, even, odd)), 1},
		{must(t)(ite.Xor(a, odd, even)), 1},
		{must(t)(ite.Xor(a, even, 1)), odd},
		{must(t)(ite.Xor(a, 1, odd)), even},
		{must(t)(ite.Of(a, odd, even, odd)), 0},
		{must(t)(ite.Of(a, odd, odd, even)), 1},
		{must(t)(ite.And(a, all, even)), all},
		{must(t)(ite.And(a, odd, all)), 0},
	} {
		if w.got != w.want {
			t.Errorf("%d; want %d", w.got, w.want)
		}
	}
	for step := range 50 {
		mixed := uint64(step+1) * 0x9e3779b97f4a7c15
		ones := 0
		is := func(v int) bool {
			one := mixed>>(v%61)&1 == 1
			if one {
				ones++
			}
			return one
		}
		if a.Eval(odd, is) != (ones%2 == 1) {
			t.Errorf("of %d ones", ones)
		}
	}
	if !a.Eval(all, func(int) bool { return true }) || a.Eval(all, func(v int) bool { return v != 700 }) {
		t.Error("all")
	}
}

func TestSameQuestionSameDiagram(t *testing.T) {
	a := arena.Of(api.MaxNodes)
	x := must(t)(a.Variable(4))
	y := must(t)(a.Variable(2))
	z := must(t)(a.Variable(8))
	for _, c := range calls() {
		first := must(t)(c.do(a, x, y, z))
		there := a.Len()
		if again := must(t)(c.do(a, x, y, z)); again != first || a.Len() != there {
			t.Errorf("%s: %d, %d, and %d nodes more", c.name, first, again, a.Len()-there)
		}
	}
	one := must(t)(ite.Not(a, must(t)(ite.And(a, x, y))))
	other := must(t)(ite.Or(a, must(t)(ite.Not(a, y)), must(t)(ite.Not(a, x))))
	if one != other {
		t.Error(one, other)
	}
}

func TestArenaThatNobodyMade(t *testing.T) {
	for _, c := range calls() {
		var a arena.Arena
		if _, err := c.do(&a, 3, 4, 5); err != nil || a.Len() != 0 {
			t.Error(c.name, err, a.Len())
		}
	}
}
