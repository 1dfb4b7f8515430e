package arena_test

import (
	"errors"
	"math"
	"slices"
	"testing"

	"maquette/api"
	"maquette/arena"
)

// mustMk is a node that there must be room for.
func mustMk(t *testing.T, a *arena.Arena, v, low, high int) int {
	t.Helper()
	k, err := a.Mk(v, low, high)
	if err != nil {
		t.Fatalf("Mk(%d, %d, %d): %v", v, low, high, err)
	}
	return k
}

// wantErr holds an answer of Mk or Variable against 0 and an error without a place.
func wantErr(t *testing.T, k int, err error, want api.Errno) {
	t.Helper()
	if k != 0 || !errors.Is(err, want) || api.Place(err) != -1 {
		t.Errorf("got %d, %v; want 0, %v", k, err, want)
	}
}

// fill makes nodes till there is no room, and is how many there are then.
func fill(t *testing.T, a *arena.Arena) int {
	t.Helper()
	for v := arena.Last - 1; v >= 0; v-- {
		there := a.Len()
		for low := range there {
			for high := range there {
				before := a.Len()
				k, err := a.Mk(v, low, high)
				if err != nil {
					wantErr(t, k, err, api.ErrFull)
					if a.Len() != before {
						t.Fatalf("no room, but Len went from %d to %d", before, a.Len())
					}
					return before
				}
				if low != high && (k != before || a.Len() != before+1) {
					t.Fatalf("Mk(%d, %d, %d): %d, Len %d; want %d", v, low, high, k, a.Len(), before)
				}
				if a.Len() > api.MaxNodes {
					t.Fatal("there is more room than for MaxNodes nodes")
				}
			}
		}
	}
	t.Fatal("no node was refused")
	return 0
}

// P1.1

func TestOfHasNoAndYes(t *testing.T) {
	for _, most := range []int{math.MinInt, -1, 0, 2, 3, api.MaxNodes, math.MaxInt} {
		a := arena.Of(most)
		if a.Len() != 2 {
			t.Errorf("Of(%d): Len %d", most, a.Len())
		}
		if n := a.Get(0); n != (arena.Node{Var: arena.Last, Low: 0, High: 0}) {
			t.Errorf("Of(%d): no is %v", most, n)
		}
		if n := a.Get(1); n != (arena.Node{Var: arena.Last, Low: 1, High: 1}) {
			t.Errorf("Of(%d): yes is %v", most, n)
		}
	}
}

func TestOfHasRoomForMost(t *testing.T) {
	rooms := []struct{ most, want int }{
		{math.MinInt, 2}, {-1, 2}, {0, 2}, {1, 2}, {2, 2}, {3, 3}, {4, 4}, {100, 100},
		{api.MaxNodes - 1, api.MaxNodes - 1}, {api.MaxNodes, api.MaxNodes}, {api.MaxNodes + 1, api.MaxNodes}, {math.MaxInt, api.MaxNodes},
	}
	for _, r := range rooms {
		if got := fill(t, arena.Of(r.most)); got != r.want {
			t.Errorf("Of(%d): room for %d; want %d", r.most, got, r.want)
		}
	}
}

func TestGetOfNoNode(t *testing.T) {
	a := arena.Of(10)
	x := mustMk(t, a, 3, 0, 1)
	y := mustMk(t, a, 1, x, 0)
	if n := a.Get(x); n != (arena.Node{Var: 3, Low: 0, High: 1}) {
		t.Error(n)
	}
	if n := a.Get(y); n != (arena.Node{Var: 1, Low: x, High: 0}) {
		t.Error(n)
	}
	for _, k := range []int{math.MinInt, -1, a.Len(), a.Len() + 1, 10, math.MaxInt} {
		if n := a.Get(k); n != (arena.Node{Var: arena.Last}) {
			t.Errorf("Get(%d): %v", k, n)
		}
	}
}

func TestArenasAreApart(t *testing.T) {
	a, b := arena.Of(10), arena.Of(10)
	mustMk(t, a, 5, 0, 1)
	if b.Len() != 2 || b.Get(2) != (arena.Node{Var: arena.Last}) {
		t.Error("a node of one arena is in another one")
	}
	if k := mustMk(t, b, 6, 0, 1); k != 2 || a.Get(2).Var != 5 {
		t.Error("a node of one arena changed another one")
	}
}

func TestArenaThatNobodyMade(t *testing.T) {
	var a arena.Arena
	k, err := a.Variable(0)
	wantErr(t, k, err, api.ErrArgument)
	if a.Get(2) != (arena.Node{Var: arena.Last}) || a.Eval(2, nil) {
		t.Error("there is a node")
	}
}

// P1.2

func TestMkExample(t *testing.T) {
	a := arena.Of(api.MaxNodes)
	for range 2 {
		if k, err := a.Variable(3); k != 2 || err != nil {
			t.Error(k, err)
		}
	}
	if k, err := a.Mk(3, 1, 1); k != 1 || err != nil {
		t.Error(k, err)
	}
	if a.Len() != 3 {
		t.Error(a.Len())
	}
}

func TestMkWrongArguments(t *testing.T) {
	a := arena.Of(api.MaxNodes)
	x := mustMk(t, a, 4, 0, 1)
	y := mustMk(t, a, 2, 0, x)
	none := a.Len()
	wrong := []arena.Node{
		{Var: -1, Low: 0, High: 1}, {Var: math.MinInt, Low: 0, High: 1}, {Var: arena.Last, Low: 0, High: 1}, {Var: math.MaxInt, Low: 0, High: 1},
		{Var: 0, Low: -1, High: 1}, {Var: 0, Low: 1, High: -1}, {Var: 0, Low: none, High: 1}, {Var: 0, Low: 1, High: none},
		{Var: 0, Low: math.MaxInt, High: 1}, {Var: 0, Low: 1, High: math.MinInt},
		{Var: 4, Low: x, High: 0}, {Var: 4, Low: 0, High: x}, {Var: 5, Low: x, High: 1}, {Var: 5, Low: 1, High: x},
		{Var: 3, Low: x, High: y}, {Var: 3, Low: y, High: x}, {Var: arena.Last - 1, Low: y, High: 0},
		// Wrong ones are told ahead of ones that are the same.
		{Var: -1, Low: 0, High: 0}, {Var: arena.Last, Low: 1, High: 1}, {Var: 0, Low: -1, High: -1}, {Var: 0, Low: none, High: none}, {Var: 4, Low: x, High: x}, {Var: 5, Low: x, High: x},
	}
	for _, n := range wrong {
		k, err := a.Mk(n.Var, n.Low, n.High)
		t.Log(n)
		wantErr(t, k, err, api.ErrArgument)
	}
	if a.Len() != none {
		t.Errorf("wrong arguments made nodes: %d", a.Len()-none)
	}
}

func TestMkSameWays(t *testing.T) {
	a := arena.Of(api.MaxNodes)
	x := mustMk(t, a, 4, 0, 1)
	for _, k := range []int{0, 1, x} {
		if got := mustMk(t, a, 3, k, k); got != k {
			t.Errorf("Mk(3, %d, %d): %d", k, k, got)
		}
	}
	if a.Len() != 3 {
		t.Error(a.Len())
	}
}

func TestMkWhereThereIsNoRoom(t *testing.T) {
	a := arena.Of(4)
	x := mustMk(t, a, 4, 0, 1)
	y := mustMk(t, a, 2, 0, x)
	for range 2 {
		k, err := a.Mk(2, x, 0)
		wantErr(t, k, err, api.ErrFull)
		k, err = a.Variable(5)
		wantErr(t, k, err, api.ErrFull)
	}
	// What is there, or needs no node, is answered all the same.
	if k := mustMk(t, a, 2, 0, x); k != y {
		t.Error(k)
	}
	if k := mustMk(t, a, 1, y, y); k != y {
		t.Error(k)
	}
	// And wrong arguments are told ahead of it.
	k, err := a.Mk(4, x, 0)
	wantErr(t, k, err, api.ErrArgument)
	k, err = a.Variable(arena.Last)
	wantErr(t, k, err, api.ErrArgument)
	if a.Len() != 4 || a.Get(4) != (arena.Node{Var: arena.Last}) {
		t.Error(a.Len(), a.Get(4))
	}
}

func TestVariable(t *testing.T) {
	a := arena.Of(api.MaxNodes)
	for i, v := range []int{0, 1, 7, arena.Last - 1} {
		k, err := a.Variable(v)
		if k != 2+i || err != nil || a.Get(k) != (arena.Node{Var: v, Low: 0, High: 1}) {
			t.Errorf("Variable(%d): %d, %v: %v", v, k, err, a.Get(k))
		}
		if again := mustMk(t, a, v, 0, 1); again != k {
			t.Errorf("Mk(%d, 0, 1): %d; want %d", v, again, k)
		}
	}
	for _, v := range []int{math.MinInt, -1, arena.Last, math.MaxInt} {
		k, err := a.Variable(v)
		wantErr(t, k, err, api.ErrArgument)
	}
}

// plain is an arena that looks through all of its nodes, held against the one of the package.
type plain struct {
	most  int
	nodes []arena.Node
}

func (p *plain) mk(v, low, high int) (int, api.Errno) {
	for _, k := range []int{low, high} {
		if v < 0 || v >= arena.Last || k < 0 || k >= len(p.nodes) || p.nodes[k].Var <= v {
			return 0, api.ErrArgument
		}
	}
	if low == high {
		return low, 0
	}
	n := arena.Node{Var: v, Low: low, High: high}
	if k := slices.Index(p.nodes, n); k >= 0 {
		return k, 0
	}
	if len(p.nodes) >= p.most {
		return 0, api.ErrFull
	}
	p.nodes = append(p.nodes, n)
	return len(p.nodes) - 1, 0
}

func TestMkAgainstAPlainOne(t *testing.T) {
	for _, most := range []int{2, 3, 7, 30, 120} {
		a := arena.Of(most)
		p := &plain{most: most, nodes: []arena.Node{{Var: arena.Last}, {Var: arena.Last, Low: 1, High: 1}}}
		step := uint32(1)
		for range 20000 {
			step = step*1664525 + 1013904223
			v, low, high := int(step>>8%8)-1, int(step>>12%32)-1, int(step>>20%32)-1
			if v == 6 {
				v = arena.Last
			}
			k, err := a.Mk(v, low, high)
			want, no := p.mk(v, low, high)
			if k != want || api.Number(err) != no {
				t.Fatalf("most %d: Mk(%d, %d, %d): %d, %v; want %d, %v", most, v, low, high, k, err, want, no)
			}
		}
		if a.Len() != len(p.nodes) {
			t.Fatalf("most %d: Len %d; want %d", most, a.Len(), len(p.nodes))
		}
		for k, n := range p.nodes {
			if a.Get(k) != n {
				t.Errorf("most %d: Get(%d): %v; want %v", most, k, a.Get(k), n)
			}
		}
	}
}

// P1.3

func TestEvalOfAllValues(t *testing.T) {
	a := arena.Of(api.MaxNodes)
	// Variable 2, if variable 0 is 1; else variables 5 and not 2.
	two := mustMk(t, a, 2, 0, 1)
	five := mustMk(t, a, 5, 0, 1)
	both := mustMk(t, a, 2, five, 0)
	f := mustMk(t, a, 0, both, two)
	for bits := range 8 {
		v0, v2, v5 := bits&1 != 0, bits&2 != 0, bits&4 != 0
		is := func(v int) bool { return v == 0 && v0 || v == 2 && v2 || v == 5 && v5 }
		want := v0 && v2 || !v0 && !v2 && v5
		if got := a.Eval(f, is); got != want {
			t.Errorf("%v, %v, %v: %v; want %v", v0, v2, v5, got, want)
		}
		if a.Eval(two, is) != v2 || a.Eval(five, is) != v5 {
			t.Errorf("%v, %v, %v: a variable is not its value", v0, v2, v5)
		}
	}
}

func TestEvalAsksAlongItsWay(t *testing.T) {
	a := arena.Of(api.MaxNodes)
	k := 1
	var want []int
	for v := arena.Last - 1; v >= 0; v-- {
		k = mustMk(t, a, v, 0, k)
		want = append(want, v)
	}
	slices.Reverse(want)
	var asked []int
	yes := a.Eval(k, func(v int) bool { asked = append(asked, v); return true })
	if !yes || !slices.Equal(asked, want) {
		t.Errorf("%v, %d variables were asked", yes, len(asked))
	}
	asked = nil
	yes = a.Eval(k, func(v int) bool { asked = append(asked, v); return v < 2 })
	if yes || !slices.Equal(asked, []int{0, 1, 2}) {
		t.Errorf("%v, asked %v", yes, asked)
	}
}

func TestEvalOfNoAndYesAndNoNode(t *testing.T) {
	a := arena.Of(api.MaxNodes)
	mustMk(t, a, 0, 0, 1)
	all := func(v int) bool {
		t.Errorf("variable %d was asked", v)
		return true
	}
	if a.Eval(0, all) || !a.Eval(1, all) || a.Eval(0, nil) || !a.Eval(1, nil) {
		t.Error("no and yes")
	}
	for _, k := range []int{math.MinInt, -1, a.Len(), math.MaxInt} {
		if a.Eval(k, all) || a.Eval(k, nil) {
			t.Errorf("Eval(%d) says yes", k)
		}
	}
}

func TestEvalWithFunctionsThatFail(t *testing.T) {
	a := arena.Of(api.MaxNodes)
	x := mustMk(t, a, 0, 0, 1)
	not := mustMk(t, a, 0, 1, 0)
	if a.Eval(x, nil) || !a.Eval(not, nil) {
		t.Error("no function does not tell of any variable")
	}
	bad := func(int) bool { panic("bad") }
	if a.Eval(x, bad) || a.Eval(not, bad) {
		t.Error("a function that panics says yes")
	}
}

func TestEvalWhileNodesAreMade(t *testing.T) {
	a := arena.Of(api.MaxNodes)
	x := mustMk(t, a, 9, 0, 1)
	f := mustMk(t, a, 3, 0, x)
	more := func(int) bool {
		for v := range 8 {
			mustMk(t, a, v, 1, x)
		}
		return true
	}
	if !a.Eval(f, more) || a.Len() != 12 {
		t.Error("eval", a.Len())
	}
}
