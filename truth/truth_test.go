package truth_test

import (
	"errors"
	"math"
	"slices"
	"testing"

	"maquette/api"
	"maquette/arena"
	"maquette/truth"
)

// must is a diagram that there must be room for.
func must(t *testing.T) func(k int, err error) int {
	t.Helper()
	return func(k int, err error) int {
		t.Helper()
		if err != nil {
			t.Fatal(err)
		}
		return k
	}
}

// wantErr holds an answer of Build against 0 and an error without a place.
func wantErr(t *testing.T, k int, err error, want api.Errno) {
	t.Helper()
	if k != 0 || !errors.Is(err, want) || api.Place(err) != -1 {
		t.Errorf("got %d, %v; want 0, %v", k, err, want)
	}
}

// noNodes are numbers that are no node's of an arena.
func noNodes(a *arena.Arena) []int {
	return []int{math.MinInt, -1, a.Len(), a.Len() + 1, api.MaxNodes, math.MaxInt}
}

// bits is the table of so many rows that a number's bits are, the lowest one first.
func bits(many int, number uint64) []bool {
	rows := make([]bool, many)
	for k := range rows {
		rows[k] = number>>k&1 == 1
	}
	return rows
}

// mixed is a table of so many variables without a plain rule.
func mixed(vars int, seed uint32) []bool {
	rows := make([]bool, 1<<vars)
	for k := range rows {
		seed = seed*1664525 + 1013904223
		rows[k] = seed>>31 == 1
	}
	return rows
}

// row tells the values of row k of a table of some variables: the first one is the highest bit, others are 0.
func row(vars, k int) func(v int) bool {
	return func(v int) bool { return v < vars && k>>(vars-1-v)&1 == 1 }
}

// yeses is how many rows say yes.
func yeses(rows []bool) int {
	count := 0
	for _, says := range rows {
		if says {
			count++
		}
	}
	return count
}

// chain is the diagram that says yes, where all of some rising variables are 1.
func chain(t *testing.T, a *arena.Arena, vars ...int) int {
	t.Helper()
	k := 1
	for _, v := range slices.Backward(vars) {
		k = must(t)(a.Mk(v, 0, k))
	}
	return k
}

// parity is the diagram that says yes, where an odd number of the variables from first on, ahead of end, are 1. The ways through it are two to the power of them, its nodes two a variable.
func parity(t *testing.T, a *arena.Arena, first, end int) int {
	t.Helper()
	even, odd := 0, 1
	for v := end - 1; v > first; v-- {
		even, odd = must(t)(a.Mk(v, even, odd)), must(t)(a.Mk(v, odd, even))
	}
	return must(t)(a.Mk(first, even, odd))
}

// P4.1: Build

func TestExample(t *testing.T) {
	a := arena.Of(api.MaxNodes)
	f := must(t)(truth.Build(a, 1, []bool{false, true}))
	if f != must(t)(a.Variable(0)) || a.Len() != 3 {
		t.Error(f, a.Len())
	}
}

func TestBuildOfVariables(t *testing.T) {
	for vars := 1; vars <= truth.Most; vars++ {
		for v := range vars {
			a := arena.Of(3)
			rows := make([]bool, 1<<vars)
			for k := range rows {
				rows[k] = row(vars, k)(v)
			}
			if f := must(t)(truth.Build(a, vars, rows)); a.Get(f) != (arena.Node{Var: v, Low: 0, High: 1}) {
				t.Errorf("variable %d of %d: %v", v, vars, a.Get(f))
			}
		}
	}
}

func TestBuildWithoutVariables(t *testing.T) {
	a := arena.Of(2)
	if k, err := truth.Build(a, 0, []bool{false}); k != 0 || err != nil {
		t.Error(k, err)
	}
	if k, err := truth.Build(a, 0, []bool{true}); k != 1 || err != nil {
		t.Error(k, err)
	}
}

func TestBuildOfOneAnswer(t *testing.T) {
	a := arena.Of(2)
	for vars := range truth.Most + 1 {
		rows := make([]bool, 1<<vars)
		if k, err := truth.Build(a, vars, rows); k != 0 || err != nil {
			t.Error(vars, k, err)
		}
		for k := range rows {
			rows[k] = true
		}
		if k, err := truth.Build(a, vars, rows); k != 1 || err != nil {
			t.Error(vars, k, err)
		}
	}
	if a.Len() != 2 {
		t.Error(a.Len())
	}
}

// Each table of up to four variables has a diagram of its own, which says what the table does, by other ways than Table, too.
func TestBuildOfAllSmallTables(t *testing.T) {
	for vars := range 5 {
		a := arena.Of(api.MaxNodes)
		many := 1 << vars
		of := map[int]uint64{}
		for number := range uint64(1) << many {
			rows := bits(many, number)
			f := must(t)(truth.Build(a, vars, rows))
			if other, ok := of[f]; ok {
				t.Fatalf("%d variables: %b and %b are both %d", vars, other, number, f)
			}
			of[f] = number
			for k := range rows {
				if a.Eval(f, row(vars, k)) != rows[k] {
					t.Fatalf("%d variables: %b: row %d", vars, number, k)
				}
			}
			if got := truth.Table(a, f, vars); !slices.Equal(got, rows) {
				t.Fatalf("%d variables: %b: %v", vars, number, got)
			}
			if got := truth.Count(a, f, vars); got != yeses(rows) {
				t.Fatalf("%d variables: %b: %d", vars, number, got)
			}
		}
	}
}

func TestBuildOfTheGreatestTables(t *testing.T) {
	a := arena.Of(api.MaxNodes)
	for seed := range uint32(20) {
		rows := mixed(truth.Most, seed)
		f := must(t)(truth.Build(a, truth.Most, rows))
		for k := range rows {
			if a.Eval(f, row(truth.Most, k)) != rows[k] {
				t.Fatalf("seed %d: row %d", seed, k)
			}
		}
		if !slices.Equal(truth.Table(a, f, truth.Most), rows) || truth.Count(a, f, truth.Most) != yeses(rows) {
			t.Errorf("seed %d: another table", seed)
		}
		there := a.Len()
		if again := must(t)(truth.Build(a, truth.Most, rows)); again != f || a.Len() != there {
			t.Errorf("seed %d: %d, %d, and %d nodes more", seed, f, again, a.Len()-there)
		}
	}
}

func TestBuildOfWrongArguments(t *testing.T) {
	for _, most := range []int{2, api.MaxNodes} {
		a := arena.Of(most)
		for _, vars := range []int{math.MinInt, -1024, -64, -1, truth.Most + 1, 63, 64, 65, 1 << 32, math.MaxInt} {
			for _, many := range []int{0, 1, 2, 1 << truth.Most, 2 << truth.Most} {
				k, err := truth.Build(a, vars, make([]bool, many))
				wantErr(t, k, err, api.ErrArgument)
			}
			k, err := truth.Build(a, vars, nil)
			wantErr(t, k, err, api.ErrArgument)
		}
		for vars := range truth.Most + 1 {
			right := 1 << vars
			for _, many := range []int{0, right / 2, right - 1, right + 1, 2 * right, 1 << 12} {
				// Wrong ones are told ahead of there being no room.
				k, err := truth.Build(a, vars, bits(many, 0xaaaaaaaaaaaaaaaa))
				wantErr(t, k, err, api.ErrArgument)
			}
			k, err := truth.Build(a, vars, nil)
			wantErr(t, k, err, api.ErrArgument)
		}
		if a.Len() != 2 {
			t.Errorf("%d nodes were made", a.Len()-2)
		}
	}
}

// Where there is room for the diagram's own nodes it is made; where there is room for one less it is ErrFull.
func TestBuildWhereThereIsNoRoom(t *testing.T) {
	for vars := 1; vars <= truth.Most; vars++ {
		for seed := range uint32(20) {
			rows := mixed(vars, seed)
			a := arena.Of(api.MaxNodes)
			size := truth.Size(a, must(t)(truth.Build(a, vars, rows)))
			if a.Len() != size+2 {
				t.Fatalf("%d variables, seed %d: %d nodes were made of which %d are needed", vars, seed, a.Len()-2, size)
			}
			b := arena.Of(size + 2)
			for range 2 {
				if k, err := truth.Build(b, vars, rows); err != nil || !slices.Equal(truth.Table(b, k, vars), rows) {
					t.Fatalf("%d variables, seed %d: %d, %v", vars, seed, k, err)
				}
			}
			if size == 0 {
				continue
			}
			b = arena.Of(size + 1)
			for range 2 {
				k, err := truth.Build(b, vars, rows)
				wantErr(t, k, err, api.ErrFull)
			}
		}
	}
}

func TestBuildInAFullArena(t *testing.T) {
	a := arena.Of(4)
	x := must(t)(a.Variable(1))
	f := must(t)(a.Mk(0, x, 1))
	for _, w := range []struct {
		rows []bool
		want int
	}{
		{[]bool{false, true, true, true}, f},
		{[]bool{false, true, false, true}, x},
		{[]bool{true, true, true, true}, 1},
		{[]bool{false, false, false, false}, 0},
	} {
		if k, err := truth.Build(a, 2, w.rows); k != w.want || err != nil {
			t.Errorf("%v: %d, %v; want %d", w.rows, k, err, w.want)
		}
	}
	for _, rows := range [][]bool{{false, false, true, true}, {true, false, true, false}, {true, true, false, true}, {false, true, true, false}} {
		k, err := truth.Build(a, 2, rows)
		wantErr(t, k, err, api.ErrFull)
	}
	if a.Len() != 4 || a.Get(x) != (arena.Node{Var: 1, Low: 0, High: 1}) || a.Get(f) != (arena.Node{Var: 0, Low: x, High: 1}) {
		t.Error("what was there is another one")
	}
}

func TestBuildLeavesRowsAlone(t *testing.T) {
	a := arena.Of(api.MaxNodes)
	rows := mixed(6, 5)
	kept := slices.Clone(rows)
	f := must(t)(truth.Build(a, 6, rows))
	if !slices.Equal(rows, kept) {
		t.Error("the rows were changed")
	}
	for k := range rows {
		rows[k] = !rows[k]
	}
	if !slices.Equal(truth.Table(a, f, 6), kept) {
		t.Error("the rows were kept")
	}
}

// P4.1: Table, Count

// The variables ahead of vars have all values, in order; those from vars on are 0.
func TestTableOfMoreAndOfFewerVariables(t *testing.T) {
	a := arena.Of(api.MaxNodes)
	two := must(t)(a.Variable(2))
	not := must(t)(a.Mk(2, 1, 0))
	far := must(t)(a.Mk(500, 1, 0))
	for _, f := range []int{
		0, 1, two, not, far,
		must(t)(a.Mk(0, not, two)),
		must(t)(a.Mk(1, two, 0)),
		must(t)(a.Mk(0, far, two)),
		must(t)(a.Variable(9)), must(t)(a.Mk(9, 1, 0)),
		must(t)(a.Variable(10)), must(t)(a.Mk(10, 1, 0)),
		must(t)(a.Mk(arena.Last-1, 1, 0)),
		must(t)(truth.Build(a, 10, mixed(10, 3))),
		parity(t, a, 5, 20),
	} {
		for vars := range truth.Most + 1 {
			rows := truth.Table(a, f, vars)
			if len(rows) != 1<<vars {
				t.Fatalf("%d of %d variables: %d rows", f, vars, len(rows))
			}
			for k, says := range rows {
				if says != a.Eval(f, row(vars, k)) {
					t.Errorf("%d of %d variables: row %d says %v", f, vars, k, says)
				}
			}
			if got := truth.Count(a, f, vars); got != yeses(rows) {
				t.Errorf("%d of %d variables: Count %d; want %d", f, vars, got, yeses(rows))
			}
		}
	}
}

func TestTableWrittenOut(t *testing.T) {
	a := arena.Of(api.MaxNodes)
	// Where variable 1 is 0, variable 2; where it is 1, not variable 3.
	f := must(t)(a.Mk(1, must(t)(a.Variable(2)), must(t)(a.Mk(3, 1, 0))))
	const o, i = false, true
	for vars, want := range [][]bool{{o}, {o, o}, {o, i, o, i}, {o, i, i, i, o, i, i, i}, {o, o, i, i, i, o, i, o, o, o, i, i, i, o, i, o}} {
		if got := truth.Table(a, f, vars); !slices.Equal(got, want) {
			t.Errorf("%d variables: %v; want %v", vars, got, want)
		}
		if got := truth.Count(a, f, vars); got != yeses(want) {
			t.Errorf("%d variables: Count %d", vars, got)
		}
	}
}

func TestTableOfTooFewAndTooManyVariables(t *testing.T) {
	a := arena.Of(api.MaxNodes)
	x := must(t)(a.Variable(0))
	not := must(t)(a.Mk(0, 1, 0))
	ten := must(t)(a.Mk(10, 1, 0))
	for _, f := range []int{0, 1, not, ten} {
		for _, vars := range []int{math.MinInt, -64, -1} {
			if got := truth.Table(a, f, vars); !slices.Equal(got, truth.Table(a, f, 0)) || len(got) != 1 {
				t.Errorf("%d of %d variables: %v", f, vars, got)
			}
			if got := truth.Count(a, f, vars); got != truth.Count(a, f, 0) {
				t.Errorf("%d of %d variables: Count %d", f, vars, got)
			}
		}
		for _, vars := range []int{truth.Most + 1, 12, 63, 64, 65, math.MaxInt} {
			if got := truth.Table(a, f, vars); !slices.Equal(got, truth.Table(a, f, truth.Most)) || len(got) != 1024 {
				t.Errorf("%d of %d variables: %d rows", f, vars, len(got))
			}
			if got := truth.Count(a, f, vars); got != truth.Count(a, f, truth.Most) {
				t.Errorf("%d of %d variables: Count %d", f, vars, got)
			}
		}
	}
	if truth.Count(a, not, -1) != 1 || truth.Count(a, not, 11) != 512 || truth.Count(a, x, 0) != 0 {
		t.Error("counts")
	}
}

func TestTableOfNoAndYesAndNoNode(t *testing.T) {
	a := arena.Of(api.MaxNodes)
	chain(t, a, 0, 1, 2)
	there := a.Len()
	for vars := range truth.Most + 1 {
		for _, f := range append(noNodes(a), 0) {
			rows := truth.Table(a, f, vars)
			if len(rows) != 1<<vars || slices.Contains(rows, true) || truth.Count(a, f, vars) != 0 {
				t.Errorf("%d of %d variables: %d rows, %d", f, vars, len(rows), truth.Count(a, f, vars))
			}
		}
		rows := truth.Table(a, 1, vars)
		if len(rows) != 1<<vars || slices.Contains(rows, false) || truth.Count(a, 1, vars) != 1<<vars {
			t.Errorf("yes, of %d variables: %d rows, %d", vars, len(rows), truth.Count(a, 1, vars))
		}
	}
	if a.Len() != there {
		t.Errorf("%d nodes were made", a.Len()-there)
	}
}

func TestTableIsNewMemory(t *testing.T) {
	a := arena.Of(api.MaxNodes)
	rows := mixed(5, 8)
	f := must(t)(truth.Build(a, 5, rows))
	one := truth.Table(a, f, 5)
	for k := range one {
		one[k] = !one[k]
	}
	if !slices.Equal(truth.Table(a, f, 5), rows) || truth.Count(a, f, 5) != yeses(rows) {
		t.Error("two tables share memory")
	}
}

// P4.2

func TestSupportAndSize(t *testing.T) {
	a := arena.Of(api.MaxNodes)
	seven := must(t)(a.Variable(7))
	last := must(t)(a.Variable(arena.Last - 1))
	five := must(t)(a.Mk(5, last, seven))
	two := must(t)(a.Mk(2, seven, five))
	zero := must(t)(a.Mk(0, two, five))
	for _, w := range []struct {
		f, size int
		vars    []int
	}{
		{0, 0, nil},
		{1, 0, nil},
		{seven, 1, []int{7}},
		{last, 1, []int{arena.Last - 1}},
		{five, 3, []int{5, 7, arena.Last - 1}},
		{two, 4, []int{2, 5, 7, arena.Last - 1}},
		{zero, 5, []int{0, 2, 5, 7, arena.Last - 1}},
		// Nodes that ask the same variable are as many nodes, but one variable.
		{must(t)(a.Mk(3, seven, must(t)(a.Mk(7, 1, 0)))), 3, []int{3, 7}},
		{parity(t, a, 4, 7), 5, []int{4, 5, 6}},
	} {
		if got := truth.Support(a, w.f); !slices.Equal(got, w.vars) {
			t.Errorf("Support of %d: %v; want %v", w.f, got, w.vars)
		}
		if got := truth.Size(a, w.f); got != w.size {
			t.Errorf("Size of %d: %d; want %d", w.f, got, w.size)
		}
	}
}

// The variables rise along the ways, but not in the order in which nodes were made, or are come to.
func TestSupportRises(t *testing.T) {
	a := arena.Of(api.MaxNodes)
	left := chain(t, a, 10, 30, 50, 1000)
	right := chain(t, a, 5, 20, 30, 40)
	for _, f := range []int{must(t)(a.Mk(1, left, right)), must(t)(a.Mk(1, right, left))} {
		if got := truth.Support(a, f); !slices.Equal(got, []int{1, 5, 10, 20, 30, 40, 50, 1000}) || truth.Size(a, f) != 9 {
			t.Errorf("%v, %d", got, truth.Size(a, f))
		}
	}
}

func TestSupportAndSizeOfNoNode(t *testing.T) {
	a := arena.Of(api.MaxNodes)
	chain(t, a, 0, 1, 2)
	there := a.Len()
	for _, f := range append(noNodes(a), 0, 1) {
		if got := truth.Support(a, f); len(got) != 0 || truth.Size(a, f) != 0 {
			t.Errorf("%d: %v, %d", f, got, truth.Size(a, f))
		}
	}
	if a.Len() != there {
		t.Errorf("%d nodes were made", a.Len()-there)
	}
}

func TestSupportAndSizeOfOtherNodesDoNotCount(t *testing.T) {
	a := arena.Of(api.MaxNodes)
	f := chain(t, a, 3, 6)
	chain(t, a, 1, 2, 4, 8)
	must(t)(a.Mk(0, 0, f))
	if got := truth.Support(a, f); !slices.Equal(got, []int{3, 6}) || truth.Size(a, f) != 2 {
		t.Error(got, truth.Size(a, f))
	}
}

// A variable counts, if and only if some rows differ by it alone; a diagram's nodes are the different questions that are left behind its first variables, if they ask that variable.
func TestSupportAndSizeAgainstRows(t *testing.T) {
	const vars = 4
	a := arena.Of(api.MaxNodes)
	for number := range uint64(1) << (1 << vars) {
		f := must(t)(truth.Build(a, vars, bits(1<<vars, number)))
		var want []int
		size := 0
		for v := range vars {
			width := uint(1) << (vars - v)
			left := map[uint64]struct{}{}
			for at := uint(0); at < 1<<vars; at += width {
				part := number >> at & (1<<width - 1)
				if part>>(width/2) != part&(1<<(width/2)-1) {
					left[part] = struct{}{}
				}
			}
			if len(left) > 0 {
				want = append(want, v)
			}
			size += len(left)
		}
		if got := truth.Support(a, f); !slices.Equal(got, want) {
			t.Fatalf("%016b: %v; want %v", number, got, want)
		}
		if got := truth.Size(a, f); got != size {
			t.Fatalf("%016b: %d; want %d", number, got, size)
		}
	}
}

// Nodes must be gone through once each, not once for each way to them.
func TestManyWaysFewNodes(t *testing.T) {
	a := arena.Of(api.MaxNodes)
	f := parity(t, a, 0, arena.Last)
	vars := truth.Support(a, f)
	if len(vars) != arena.Last || vars[0] != 0 || vars[arena.Last-1] != arena.Last-1 || !slices.IsSorted(vars) {
		t.Error(len(vars))
	}
	if got := truth.Size(a, f); got != 2*arena.Last-1 {
		t.Error(got)
	}
	if got := truth.Count(a, f, truth.Most); got != 512 {
		t.Error(got)
	}
	for k, says := range truth.Table(a, f, truth.Most) {
		if says != a.Eval(f, row(truth.Most, k)) {
			t.Errorf("row %d says %v", k, says)
		}
	}
}

func TestSupportIsNewMemory(t *testing.T) {
	a := arena.Of(api.MaxNodes)
	f := chain(t, a, 2, 4)
	truth.Support(a, f)[0] = 9
	if got := truth.Support(a, f); !slices.Equal(got, []int{2, 4}) {
		t.Error(got)
	}
}

// Only Build makes nodes.
func TestAskingMakesNoNodes(t *testing.T) {
	a := arena.Of(api.MaxNodes)
	f := must(t)(truth.Build(a, truth.Most, mixed(truth.Most, 1)))
	before := make([]arena.Node, a.Len())
	for k := range before {
		before[k] = a.Get(k)
	}
	for vars := -1; vars < truth.Most+2; vars++ {
		truth.Table(a, f, vars)
		truth.Count(a, f, vars)
	}
	truth.Support(a, f)
	truth.Size(a, f)
	if a.Len() != len(before) {
		t.Fatalf("%d nodes were made", a.Len()-len(before))
	}
	for k, n := range before {
		if a.Get(k) != n {
			t.Errorf("node %d is another one", k)
		}
	}
}

func TestArenaThatNobodyMade(t *testing.T) {
	var a arena.Arena
	if k, err := truth.Build(&a, 1, []bool{false, true}); k != 0 || err == nil {
		t.Error(k, err)
	}
	if rows := truth.Table(&a, 5, 3); len(rows) != 8 || slices.Contains(rows, true) || truth.Count(&a, 5, 3) != 0 {
		t.Error(rows)
	}
	if len(truth.Support(&a, 5)) != 0 || truth.Size(&a, 5) != 0 || a.Len() != 0 {
		t.Error("there is a node")
	}
}
