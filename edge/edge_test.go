package edge_test

import (
	"math"
	"math/rand"
	"reflect"
	"slices"
	"sync"
	"testing"

	"maquette/api"
	"maquette/edge"
)

// route is one that is OK, of which no two parts are the same as an origin's, with some tags.
func route(tags uint8) api.Attr { return api.Attr{OK: true, Pref: 7, Cost: 10, Tags: tags} }

// drop is a map that drops all.
func drop() []api.Clause { return []api.Clause{{Any: true, Drop: true}} }

// just is a clause that works on routes of just these of the lowest four tags.
func just(tags int) api.Clause {
	return api.Clause{Any: true, With: uint8(tags), Out: uint8(15 - tags)}
}

// likes is a map that sets how all routes are liked.
func likes(pref int) []api.Clause { return []api.Clause{{Any: true, Pref: pref}} }

// odd are prefixes that do not cover that of no bits: longer ones, and what may not be.
func odd() []api.Prefix {
	return []api.Prefix{
		{Bits: 1}, {Bits: 8}, {Bits: 32}, {Addr: 10 << 24, Bits: 8}, {Addr: 1 << 31, Bits: 1},
		{Bits: -1}, {Bits: 33}, {Addr: 1, Bits: 0}, {Addr: 10 << 24}, {Bits: math.MinInt}, {Bits: math.MaxInt}, {Addr: math.MaxUint32, Bits: 1 << 32},
	}
}

// copied is an edge that shares no memory with the other one.
func copied(e api.Edge) api.Edge {
	e.Export, e.Import = slices.Clone(e.Export), slices.Clone(e.Import)
	return e
}

// through is a route behind a map, told without clause: tags are a list of which there are, and the cost is counted up.
func through(cs []api.Clause, a api.Attr) api.Attr {
	for _, c := range cs {
		if !c.Any && c.Prefix != (api.Prefix{}) || c.With&^a.Tags != 0 || c.Out&^a.Tags != c.Out {
			continue
		}
		if c.Drop || !a.OK {
			return api.Attr{}
		}
		had := a.Tags
		a.Tags = 0
		for bit := uint8(1); bit <= 8; bit *= 2 {
			if c.Clear&bit == 0 && (had&bit != 0 || c.Set&bit != 0) {
				a.Tags += bit
			}
		}
		for more := 0; more < c.More && more < 15; more++ {
			a.Cost++
		}
		if c.Pref > 0 && c.Pref < 256 {
			a.Pref = c.Pref
		}
		return a
	}
	if !a.OK {
		return api.Attr{}
	}
	return a
}

// learned is P12.1, word by word.
func learned(e api.Edge, a api.Attr) api.Attr {
	b := through(e.Export, a)
	if !b.OK {
		return api.Attr{}
	}
	switch {
	case e.Cost < 1:
		b.Cost++
	case e.Cost > 1000:
		b.Cost += 1000
	default:
		b.Cost += e.Cost
	}
	return through(e.Import, api.Attr{OK: true, Pref: 100, Cost: b.Cost, Tags: b.Tags})
}

// sixteen are the Rows of an edge, told by P12.1 alone.
func sixteen(e api.Edge) []api.Attr {
	var all []api.Attr
	for tags := range 16 {
		all = append(all, learned(e, api.Attr{OK: true, Pref: 100, Tags: uint8(tags)}))
	}
	return all
}

// P12.1: Take.

// The chapter's example.
func TestTakeExample(t *testing.T) {
	if a := edge.Take(api.Edge{Cost: 3}, api.Attr{OK: true, Pref: 100, Cost: 4}); a != (api.Attr{OK: true, Pref: 100, Cost: 7}) {
		t.Error(a)
	}
}

// Without maps a route is dearer, its tags stay, and it is liked as all are; empty maps are none.
func TestTakeWithoutMaps(t *testing.T) {
	for _, e := range []api.Edge{{Cost: 4}, {From: 9, Cost: 4}, {From: -1, Cost: 4, Export: []api.Clause{}, Import: []api.Clause{}}} {
		for tags := range 16 {
			if a := edge.Take(e, route(uint8(tags))); a != (api.Attr{OK: true, Pref: 100, Cost: 14, Tags: uint8(tags)}) {
				t.Errorf("%v, tags %d: %v", e, tags, a)
			}
		}
	}
}

// What is no route stays none, whatever its other parts, and whatever the maps do.
func TestTakeNone(t *testing.T) {
	for _, a := range []api.Attr{{}, {Pref: 100}, {Cost: 3}, {Tags: 15}, {Pref: 200, Cost: 3, Tags: 1}, {Pref: math.MaxInt, Cost: math.MinInt, Tags: 255}} {
		for _, cs := range [][]api.Clause{nil, {}, likes(200), drop(), {{Any: true, Set: 5, More: 3}}, {{Any: true, With: 2}}} {
			for _, e := range []api.Edge{{Cost: 4}, {Cost: 4, Export: cs}, {Cost: 4, Import: cs}, {Cost: 4, Export: cs, Import: cs}} {
				if b := edge.Take(e, a); b != (api.Attr{}) {
					t.Errorf("%v, %v: %v", e, a, b)
				}
			}
		}
	}
}

// What either map drops is not learned, and no part of it is left.
func TestTakeDrops(t *testing.T) {
	set := []api.Clause{{Any: true, Set: 15, More: 3, Pref: 200}}
	for _, e := range []api.Edge{
		{Cost: 4, Export: drop()}, {Cost: 4, Import: drop()}, {Cost: 4, Export: drop(), Import: drop()},
		{Cost: 4, Export: drop(), Import: set}, {Cost: 4, Export: set, Import: drop()},
		{Cost: 4, Export: drop(), Import: likes(200)},
	} {
		for tags := range 256 {
			if a := edge.Take(e, route(uint8(tags))); a != (api.Attr{}) {
				t.Errorf("%v, tags %d: %v", e, tags, a)
			}
		}
	}
}

// What a map drops hangs on the tags that the route has there.
func TestTakeDropsSome(t *testing.T) {
	cs := []api.Clause{{Any: true, With: 2, Out: 1, Drop: true}}
	for _, e := range []api.Edge{{Cost: 4, Export: cs}, {Cost: 4, Import: cs}} {
		for tags := range 16 {
			want := api.Attr{OK: true, Pref: 100, Cost: 14, Tags: uint8(tags)}
			if tags&3 == 2 {
				want = api.Attr{}
			}
			if a := edge.Take(e, route(uint8(tags))); a != want {
				t.Errorf("%v, tags %d: %v", e, tags, a)
			}
		}
	}
}

// It is the edge's cost that is clamped, not what the route costs then.
func TestTakeCost(t *testing.T) {
	for cost, more := range map[int]int{
		math.MinInt: 1, -1 << 32: 1, -1000: 1, -3: 1, -1: 1, 0: 1, 1: 1, 2: 2, 3: 3, 999: 999, 1000: 1000, 1001: 1000, 2000: 1000, 1<<32 + 1: 1000, math.MaxInt: 1000,
	} {
		for _, had := range []int{0, 1, 10, 999, 1000, 1001, 64000, 1 << 40, -5, -2000} {
			a := edge.Take(api.Edge{Cost: cost}, api.Attr{OK: true, Pref: 100, Cost: had, Tags: 2})
			if a != (api.Attr{OK: true, Pref: 100, Cost: had + more, Tags: 2}) {
				t.Errorf("%d over an edge of %d: %v", had, cost, a)
			}
		}
	}
}

// Both maps and the edge make a route dearer, each for itself.
func TestTakeMore(t *testing.T) {
	for _, row := range [][4]int{{0, 4, 0, 14}, {1, 4, 0, 15}, {0, 4, 2, 16}, {15, 4, 15, 44}, {16, 4, 99, 44}, {-1, 4, -9, 14}, {15, 1000, 15, 1040}, {15, 5000, 15, 1040}, {15, -20, 3, 29}} {
		e := api.Edge{Cost: row[1], Export: []api.Clause{{Any: true, More: row[0]}}, Import: []api.Clause{{Any: true, More: row[2]}}}
		if a := edge.Take(e, route(1)); a != (api.Attr{OK: true, Pref: 100, Cost: row[3], Tags: 1}) {
			t.Errorf("%v: %v", row, a)
		}
	}
}

// How the neighbour likes a route is forgotten, and what its map says of that, too: the node's own map alone says so.
func TestTakePref(t *testing.T) {
	for _, had := range []int{math.MinInt, -1, 0, 1, 99, 100, 101, 255, 256, math.MaxInt} {
		for _, export := range []int{-1, 0, 1, 99, 100, 200, 255, 256} {
			for own, want := range map[int]int{math.MinInt: 100, -1: 100, 0: 100, 1: 1, 99: 99, 100: 100, 120: 120, 255: 255, 256: 100, math.MaxInt: 100} {
				e := api.Edge{Cost: 4, Export: likes(export), Import: likes(own)}
				if a := edge.Take(e, api.Attr{OK: true, Pref: had, Cost: 10}); a != (api.Attr{OK: true, Pref: want, Cost: 14}) {
					t.Errorf("had %d, export %d, import %d: %v", had, export, own, a)
				}
			}
			if a := edge.Take(api.Edge{Cost: 4, Export: likes(export)}, api.Attr{OK: true, Pref: had, Cost: 10}); a != (api.Attr{OK: true, Pref: 100, Cost: 14}) {
				t.Errorf("had %d, export %d: %v", had, export, a)
			}
		}
	}
}

// Tags that the neighbour's map sets and clears are those that the own map asks.
func TestTakeTags(t *testing.T) {
	e := api.Edge{
		Cost:   4,
		Export: []api.Clause{{Any: true, With: 1, Set: 2, Clear: 1}, {Any: true, With: 4, Clear: 4}, {Any: true, Set: 8}},
		Import: []api.Clause{{Any: true, With: 3, Pref: 11}, {Any: true, With: 8, Set: 1, Pref: 12}, {Any: true, Out: 14, Drop: true}, {Any: true, With: 2, Pref: 13}},
	}
	for tags, want := range []api.Attr{
		{OK: true, Pref: 12, Cost: 14, Tags: 9},
		{OK: true, Pref: 13, Cost: 14, Tags: 2},
		{OK: true, Pref: 12, Cost: 14, Tags: 11},
		{OK: true, Pref: 13, Cost: 14, Tags: 2},
		{},
		{OK: true, Pref: 13, Cost: 14, Tags: 6},
		{OK: true, Pref: 13, Cost: 14, Tags: 2},
		{OK: true, Pref: 13, Cost: 14, Tags: 6},
		{OK: true, Pref: 12, Cost: 14, Tags: 9},
	} {
		if a := edge.Take(e, route(uint8(tags))); a != want {
			t.Errorf("tags %d: %v, not %v", tags, a, want)
		}
	}
}

// The neighbour's map is ahead of the own one: what the own one sets is not asked by the other.
func TestTakeExportFirst(t *testing.T) {
	sets, asks := []api.Clause{{Any: true, Set: 4}}, []api.Clause{{Any: true, With: 4, Drop: true}}
	if a := edge.Take(api.Edge{Cost: 4, Export: sets, Import: asks}, route(0)); a != (api.Attr{}) {
		t.Error(a)
	}
	if a := edge.Take(api.Edge{Cost: 4, Export: asks, Import: sets}, route(0)); a != (api.Attr{OK: true, Pref: 100, Cost: 14, Tags: 4}) {
		t.Error(a)
	}
}

// Of clauses that are not Any those of the prefix of no bits work, those of all others do not; a prefix beside Any says nothing.
func TestTakePrefixes(t *testing.T) {
	for _, p := range append(odd(), api.Prefix{}) {
		for _, some := range []bool{false, true} {
			c := api.Clause{Any: some, Prefix: p, Drop: true}
			want := api.Attr{}
			if !some && p != (api.Prefix{}) {
				want = api.Attr{OK: true, Pref: 100, Cost: 14, Tags: 3}
			}
			if a := edge.Take(api.Edge{Cost: 4, Export: []api.Clause{c}}, route(3)); a != want {
				t.Errorf("export %v: %v", c, a)
			}
			if a := edge.Take(api.Edge{Cost: 4, Import: []api.Clause{c}}, route(3)); a != want {
				t.Errorf("import %v: %v", c, a)
			}
		}
	}
}

// Parts that no configuration has are learned as others are: high tags stay where no clause works, and go where one does.
func TestTakeOddRoutes(t *testing.T) {
	asks := []api.Clause{{Any: true, With: 0x40, Set: 1, More: 2}}
	for _, row := range []struct {
		e       api.Edge
		a, want api.Attr
	}{
		{api.Edge{Cost: 4}, api.Attr{OK: true}, api.Attr{OK: true, Pref: 100, Cost: 4}},
		{api.Edge{Cost: 4}, api.Attr{OK: true, Pref: -9, Cost: -7, Tags: 0xf5}, api.Attr{OK: true, Pref: 100, Cost: -3, Tags: 0xf5}},
		{api.Edge{Cost: 4}, api.Attr{OK: true, Pref: 1000, Cost: 5000, Tags: 0x10}, api.Attr{OK: true, Pref: 100, Cost: 5004, Tags: 0x10}},
		{api.Edge{Cost: 4}, api.Attr{OK: true, Pref: math.MaxInt, Cost: math.MinInt}, api.Attr{OK: true, Pref: 100, Cost: math.MinInt + 4}},
		{api.Edge{Cost: 4}, api.Attr{OK: true, Pref: math.MinInt, Cost: math.MaxInt - 4, Tags: 255}, api.Attr{OK: true, Pref: 100, Cost: math.MaxInt, Tags: 255}},
		{api.Edge{Cost: 4, Export: asks}, api.Attr{OK: true, Tags: 0xf0}, api.Attr{OK: true, Pref: 100, Cost: 6, Tags: 1}},
		{api.Edge{Cost: 4, Import: asks}, api.Attr{OK: true, Tags: 0x42}, api.Attr{OK: true, Pref: 100, Cost: 6, Tags: 3}},
		{api.Edge{Cost: 4, Export: asks, Import: asks}, api.Attr{OK: true, Tags: 0x40}, api.Attr{OK: true, Pref: 100, Cost: 6, Tags: 1}},
		{api.Edge{Cost: 4, Export: asks, Import: asks}, api.Attr{OK: true, Tags: 0x22}, api.Attr{OK: true, Pref: 100, Cost: 4, Tags: 0x22}},
	} {
		if a := edge.Take(row.e, row.a); a != row.want {
			t.Errorf("%v over %v: %v, not %v", row.a, row.e, a, row.want)
		}
	}
}

// From whom the edge is says nothing of what is learned over it.
func TestTakeFrom(t *testing.T) {
	for _, from := range []int{math.MinInt, -1, 0, 1, 63, 64, math.MaxInt} {
		if a := edge.Take(api.Edge{From: from, Cost: 4, Import: likes(50)}, route(1)); a != (api.Attr{OK: true, Pref: 50, Cost: 14, Tags: 1}) {
			t.Errorf("from %d: %v", from, a)
		}
	}
}

// W1: costs at the end of all ints, and maps of far more clauses than a configuration has.
func TestTakeExtremes(t *testing.T) {
	long := slices.Repeat([]api.Clause{{Any: true, With: 1, Out: 1, Drop: true}}, 1000)
	long = append(long, api.Clause{Any: true, Set: 255, Clear: 1, More: math.MaxInt, Pref: 255})
	for _, e := range []api.Edge{{Cost: math.MaxInt, Export: long, Import: long}, {Cost: math.MinInt, Export: long, Import: long}} {
		for _, cost := range []int{math.MinInt, math.MaxInt, 0} {
			a := edge.Take(e, api.Attr{OK: true, Pref: math.MinInt, Cost: cost, Tags: 255})
			if !a.OK || a.Pref != 255 || a.Tags != 14 {
				t.Errorf("%d over an edge of %d: %v", cost, e.Cost, a)
			}
		}
	}
}

// P12.2: Row.

func TestRow(t *testing.T) {
	e := api.Edge{Cost: 3, Export: []api.Clause{{Any: true, With: 1, Drop: true}, {Any: true, With: 2, Set: 4, Pref: 9, More: 1}}, Import: []api.Clause{{Any: true, With: 12, Drop: true}, {Any: true, With: 4, Pref: 60, Clear: 2}}}
	for tags, want := range []api.Attr{
		0: {OK: true, Pref: 100, Cost: 3, Tags: 0},
		2: {OK: true, Pref: 60, Cost: 4, Tags: 4},
		4: {OK: true, Pref: 60, Cost: 3, Tags: 4},
		6: {OK: true, Pref: 60, Cost: 4, Tags: 4},
		8: {OK: true, Pref: 100, Cost: 3, Tags: 8},
		// Those that are not named are dropped by the one map or by the other.
		15: {},
	} {
		if a, ok := edge.Row(e, uint8(tags)); a != want || ok != want.OK {
			t.Errorf("tags %d: %v, %v, not %v", tags, a, ok, want)
		}
	}
}

// Without maps a Row is the edge's cost, and the tags themselves.
func TestRowWithoutMaps(t *testing.T) {
	for cost, want := range map[int]int{-4: 1, 0: 1, 1: 1, 3: 3, 1000: 1000, 1001: 1000} {
		for tags := range 16 {
			a, ok := edge.Row(api.Edge{From: 2, Cost: cost}, uint8(tags))
			if !ok || a != (api.Attr{OK: true, Pref: 100, Cost: want, Tags: uint8(tags)}) {
				t.Errorf("cost %d, tags %d: %v, %v", cost, tags, a, ok)
			}
		}
	}
}

// Of tags the lowest four bits count: no map sees the others, and no Row has them.
func TestRowHighTags(t *testing.T) {
	for _, e := range []api.Edge{
		{Cost: 2},
		{Cost: 2, Export: []api.Clause{{Any: true, With: 0x10, Drop: true}}},
		{Cost: 2, Import: []api.Clause{{Any: true, With: 0x80, Pref: 9}, {Any: true, Out: 0x60, More: 1}}},
		{Cost: 2, Export: []api.Clause{{Any: true, With: 5, Set: 2}}, Import: []api.Clause{just(7), just(2)}},
	} {
		for tags := range 256 {
			low, is := edge.Row(e, uint8(tags%16))
			if a, ok := edge.Row(e, uint8(tags)); a != low || ok != is || a.Tags > 15 {
				t.Errorf("%v, tags %d: %v, %v, not %v, %v", e, tags, a, ok, low, is)
			}
		}
	}
	if a, ok := edge.Row(api.Edge{Cost: 2}, 0xf9); !ok || a != (api.Attr{OK: true, Pref: 100, Cost: 2, Tags: 9}) {
		t.Error(a, ok)
	}
}

// W3: where nothing is learned, all is zero.
func TestRowDropped(t *testing.T) {
	set := []api.Clause{{Any: true, Set: 15, More: 3, Pref: 200}}
	for _, e := range []api.Edge{{Cost: 4, Export: drop()}, {Cost: 4, Import: drop()}, {Cost: 4, Export: set, Import: drop()}, {Cost: 4, Export: drop(), Import: set}} {
		for tags := range 256 {
			if a, ok := edge.Row(e, uint8(tags)); ok || a != (api.Attr{}) {
				t.Errorf("%v, tags %d: %v, %v", e, tags, a, ok)
			}
		}
	}
}

// P12.2: Likes.

func TestLikes(t *testing.T) {
	for _, row := range []struct {
		name string
		e    api.Edge
		want bool
	}{
		{"a zero one", api.Edge{}, false},
		{"no maps", api.Edge{From: 1, Cost: 5}, false},
		{"all, more", api.Edge{Cost: 5, Import: likes(200)}, true},
		{"all, less", api.Edge{Cost: 5, Import: likes(1)}, true},
		{"all, by one more", api.Edge{Cost: 5, Import: likes(101)}, true},
		{"all, by one less", api.Edge{Cost: 5, Import: likes(99)}, true},
		{"the most", api.Edge{Cost: 5, Import: likes(255)}, true},
		{"100", api.Edge{Cost: 5, Import: likes(100)}, false},
		{"none", api.Edge{Cost: 5, Import: likes(0)}, false},
		{"too many", api.Edge{Cost: 5, Import: likes(256)}, false},
		{"too few", api.Edge{Cost: 5, Import: likes(-1)}, false},
		{"forgotten", api.Edge{Cost: 5, Export: likes(200)}, false},
		{"forgotten, and none", api.Edge{Cost: 5, Export: likes(200), Import: likes(0)}, false},
		{"100 for some, another for all others", api.Edge{Cost: 5, Import: []api.Clause{{Any: true, With: 1, Pref: 100}, {Any: true, Pref: 101}}}, true},
		{"100 for all, another behind", api.Edge{Cost: 5, Import: append(likes(100), likes(200)...)}, false},
		{"set and dropped", api.Edge{Cost: 5, Import: []api.Clause{{Any: true, Drop: true, Pref: 200}}}, false},
		{"set, and dropped ahead", api.Edge{Cost: 5, Export: drop(), Import: likes(200)}, false},
		{"set by the one, dropped by the other", api.Edge{Cost: 5, Export: likes(200), Import: drop()}, false},
		{"dropped, but for one tag", api.Edge{Cost: 5, Export: []api.Clause{{Any: true, Out: 8, Drop: true}}, Import: likes(200)}, true},
		{"set for what is dropped", api.Edge{Cost: 5, Export: []api.Clause{{Any: true, With: 8, Drop: true}}, Import: []api.Clause{{Any: true, With: 8, Pref: 200}}}, false},
		{"set for a tag that is cleared", api.Edge{Cost: 5, Export: []api.Clause{{Any: true, Clear: 8}}, Import: []api.Clause{{Any: true, With: 8, Pref: 200}}}, false},
		{"set for a tag that is set", api.Edge{Cost: 5, Export: []api.Clause{{Any: true, Set: 8}}, Import: []api.Clause{{Any: true, With: 8, Pref: 200}}}, true},
		{"set for a tag that is out", api.Edge{Cost: 5, Export: []api.Clause{{Any: true, Set: 8}}, Import: []api.Clause{{Any: true, Out: 8, Pref: 200}}}, false},
		{"set for no tags at all", api.Edge{Cost: 5, Import: []api.Clause{{Any: true, With: 3, Out: 2, Pref: 200}}}, false},
		{"set for a high tag", api.Edge{Cost: 5, Export: []api.Clause{{Any: true, Set: 0x10}}, Import: []api.Clause{{Any: true, With: 0x10, Pref: 200}}}, false},
		{"set by the prefix of no bits", api.Edge{Cost: 5, Import: []api.Clause{{Pref: 200}}}, true},
		{"set elsewhere", api.Edge{Cost: 5, Import: []api.Clause{{Prefix: api.Prefix{Bits: 1}, Pref: 200}}}, false},
	} {
		if edge.Likes(row.e) != row.want {
			t.Errorf("%s: not %v", row.name, row.want)
		}
	}
}

// One of the sixteen alone is enough, whichever it is.
func TestLikesOneAlone(t *testing.T) {
	for tags := range 16 {
		c := just(tags)
		for pref, want := range map[int]bool{0: false, 1: true, 99: true, 100: false, 101: true, 255: true, 256: false} {
			c.Pref = pref
			if edge.Likes(api.Edge{Cost: 5, Import: []api.Clause{c}}) != want {
				t.Errorf("tags %d, %d: not %v", tags, pref, want)
			}
			if edge.Likes(api.Edge{Cost: 5, Import: append([]api.Clause{c}, drop()...)}) != want {
				t.Errorf("tags %d alone, %d: not %v", tags, pref, want)
			}
		}
		c.Pref, c.Drop = 200, true
		if edge.Likes(api.Edge{Cost: 5, Import: []api.Clause{c}}) {
			t.Errorf("tags %d: dropped", tags)
		}
	}
}

// P12.2: Same.

func TestSame(t *testing.T) {
	tagged := []api.Clause{{Any: true, With: 1, Set: 2}, {Any: true, Out: 2, Pref: 60, More: 3}}
	for _, row := range []struct {
		name string
		a, b api.Edge
		want bool
	}{
		{"zero ones", api.Edge{}, api.Edge{}, true},
		{"others in From alone", api.Edge{From: 1, Cost: 5, Export: tagged}, api.Edge{From: 2, Cost: 5, Export: tagged}, true},
		{"a From that there is not", api.Edge{From: -1, Cost: 5}, api.Edge{From: math.MaxInt, Cost: 5}, true},
		{"others in cost alone", api.Edge{From: 1, Cost: 5, Import: tagged}, api.Edge{From: 1, Cost: 6, Import: tagged}, false},
		{"the least costs", api.Edge{Cost: 1}, api.Edge{Cost: 2}, false},
		{"the greatest costs", api.Edge{Cost: 999}, api.Edge{Cost: 1000}, false},
		{"clamped below", api.Edge{Cost: -8}, api.Edge{Cost: 1}, true},
		{"clamped below, 0", api.Edge{Cost: 0}, api.Edge{Cost: math.MinInt}, true},
		{"clamped above", api.Edge{Cost: 1000}, api.Edge{Cost: 1001}, true},
		{"clamped above, much", api.Edge{Cost: 5000}, api.Edge{Cost: math.MaxInt}, true},
		{"clamped, at both ends", api.Edge{Cost: 0}, api.Edge{Cost: 1001}, false},
		{"other costs, dropped all", api.Edge{Cost: 5, Export: drop()}, api.Edge{Cost: 6, Import: drop()}, true},
		{"dropped, and not", api.Edge{Cost: 5, Export: drop()}, api.Edge{Cost: 5}, false},
		{"no map, and one without clauses", api.Edge{Cost: 5}, api.Edge{Cost: 5, Export: []api.Clause{}, Import: []api.Clause{}}, true},
		{"no map, and one that does nothing", api.Edge{Cost: 5}, api.Edge{Cost: 5, Import: []api.Clause{{Any: true, With: 1}, {Any: true, Clear: 0x10, Pref: 100}}}, true},
		{"dearer by a map", api.Edge{Cost: 5}, api.Edge{Cost: 3, Export: []api.Clause{{Any: true, More: 2}}}, true},
		{"dearer by the other map", api.Edge{Cost: 1, Export: []api.Clause{{Any: true, More: 2}}}, api.Edge{Cost: 1, Import: []api.Clause{{Any: true, More: 2}}}, true},
		{"a Pref that is forgotten", api.Edge{Cost: 5, Export: likes(200)}, api.Edge{Cost: 5, Export: likes(50)}, true},
		{"other Prefs", api.Edge{Cost: 5, Import: likes(200)}, api.Edge{Cost: 5, Import: likes(201)}, false},
		{"tags set by either map", api.Edge{Cost: 5, Export: []api.Clause{{Any: true, Set: 4}}}, api.Edge{Cost: 5, Import: []api.Clause{{Any: true, Set: 4}}}, true},
		{"other tags", api.Edge{Cost: 5, Export: []api.Clause{{Any: true, Set: 4}}}, api.Edge{Cost: 5, Export: []api.Clause{{Any: true, Set: 5}}}, false},
		{"clauses in another order", api.Edge{Cost: 5, Import: []api.Clause{{Any: true, With: 1, Out: 2, Pref: 9}, {Any: true, With: 2, Pref: 8}}}, api.Edge{Cost: 5, Import: []api.Clause{{Any: true, With: 2, Pref: 8}, {Any: true, With: 1, Pref: 9}}}, true},
		{"clauses behind that drops all", api.Edge{Cost: 5, Import: append(drop(), likes(8)...)}, api.Edge{Cost: 5, Import: append(drop(), likes(9)...)}, true},
		{"clauses of high tags", api.Edge{Cost: 5}, api.Edge{Cost: 5, Export: []api.Clause{{Any: true, With: 0x20, Drop: true}}}, true},
		{"clauses elsewhere", api.Edge{Cost: 5}, api.Edge{Cost: 5, Export: []api.Clause{{Prefix: api.Prefix{Bits: 8}, Drop: true}}}, true},
		{"clauses of the prefix of no bits", api.Edge{Cost: 5, Export: drop()}, api.Edge{Cost: 5, Export: []api.Clause{{Drop: true}}}, true},
	} {
		if edge.Same(row.a, row.b) != row.want || edge.Same(row.b, row.a) != row.want {
			t.Errorf("%s: not %v", row.name, row.want)
		}
		if !edge.Same(row.a, row.a) || !edge.Same(row.b, copied(row.b)) {
			t.Errorf("%s: not as themselves", row.name)
		}
	}
}

// What is another one for one of the sixteen alone is not the same, whichever it is, and whichever part.
func TestSameButOne(t *testing.T) {
	plain := api.Edge{Cost: 5}
	for tags := range 16 {
		// The last one has the first tag be there, if it was not, or else go.
		for _, c := range []api.Clause{{Drop: true}, {More: 1}, {Pref: 99}, {Set: 1 &^ uint8(tags), Clear: 1 & uint8(tags)}} {
			one := just(tags)
			one.Drop, one.More, one.Pref, one.Set, one.Clear = c.Drop, c.More, c.Pref, c.Set, c.Clear
			e := api.Edge{Cost: 5, Import: []api.Clause{one}}
			if edge.Same(plain, e) || edge.Same(e, plain) || !edge.Same(e, e) {
				t.Errorf("tags %d: %v", tags, one)
			}
			e = api.Edge{Cost: 5, Export: []api.Clause{one}}
			if same := c.Pref != 0; edge.Same(plain, e) != same || edge.Same(e, plain) != same {
				t.Errorf("tags %d: %v by the neighbour", tags, one)
			}
		}
	}
}

// All four.

// few is a number by chance that has few of its bits.
func few(r *rand.Rand) uint8 { return uint8(r.Intn(32) & r.Intn(32) & r.Intn(32)) }

// clauses is a map by chance, of few values, so that edges of it are often the same.
func clauses(r *rand.Rand) []api.Clause {
	ps := append(odd(), slices.Repeat([]api.Prefix{{}}, 12)...)
	cs := make([]api.Clause, r.Intn(4))
	for i := range cs {
		cs[i] = api.Clause{
			Any: r.Intn(2) == 0, Prefix: ps[r.Intn(len(ps))], With: few(r), Out: few(r), Drop: r.Intn(6) == 0, Set: few(r), Clear: few(r),
			More: max(r.Intn(24)-5, 0), Pref: []int{0, 0, 0, -1, 100, 100, 50, 255, 256}[r.Intn(9)],
		}
	}
	return cs
}

// some is an edge by chance.
func some(r *rand.Rand) api.Edge {
	return api.Edge{From: r.Intn(4), Cost: []int{-1, 0, 1, 2, 3, 1000, 1001}[r.Intn(7)], Export: clauses(r), Import: clauses(r)}
}

// near is an edge that is often the same as another one, but for one part of it.
func near(r *rand.Rand, e api.Edge) api.Edge {
	e = copied(e)
	cs := e.Import
	if r.Intn(2) == 0 {
		cs = e.Export
	}
	if len(cs) > 0 {
		cs[r.Intn(len(cs))].Pref = r.Intn(3) * 50
		cs[r.Intn(len(cs))].Set ^= few(r)
		cs[r.Intn(len(cs))].Out ^= few(r)
	}
	return e
}

func TestByChance(t *testing.T) {
	r := rand.New(rand.NewSource(12))
	same, liked := 0, 0
	for range 20000 {
		e := some(r)
		other := near(r, e)
		kept, otherKept := copied(e), copied(other)
		a := api.Attr{OK: r.Intn(8) > 0, Pref: r.Intn(300), Cost: r.Intn(100), Tags: uint8(r.Intn(256))}
		if b := edge.Take(e, a); b != learned(e, a) {
			t.Fatalf("%v over %v: %v, not %v", a, e, b, learned(e, a))
		}
		rows := sixteen(e)
		if b, ok := edge.Row(e, a.Tags); b != rows[a.Tags%16] || ok != b.OK {
			t.Fatalf("%v, tags %d: %v, %v", e, a.Tags, b, ok)
		}
		likes := slices.ContainsFunc(rows, func(b api.Attr) bool { return b.OK && b.Pref != 100 })
		if edge.Likes(e) != likes {
			t.Fatalf("%v: does not like %v", e, !likes)
		}
		is := slices.Equal(rows, sixteen(other))
		if edge.Same(e, other) != is || edge.Same(other, e) != is {
			t.Fatalf("%v, %v: not %v", e, other, is)
		}
		if !reflect.DeepEqual(e, kept) || !reflect.DeepEqual(other, otherKept) {
			t.Fatalf("%v or %v was changed", kept, otherKept)
		}
		if is {
			same++
		}
		if likes {
			liked++
		}
	}
	if min(same, 20000-same, liked, 20000-liked) < 1000 {
		t.Errorf("too few of a kind: %d the same, %d liked", same, liked)
	}
}

// A route is learned as its Row says, dearer by what it cost: that is what diagrams of edges stand on.
func TestTakeIsRow(t *testing.T) {
	r := rand.New(rand.NewSource(13))
	for range 2000 {
		e := some(r)
		for tags := range uint8(16) {
			a := api.Attr{OK: true, Pref: r.Intn(300), Cost: r.Intn(5000), Tags: tags}
			want, ok := edge.Row(e, tags)
			if ok {
				want.Cost += a.Cost
			}
			if b := edge.Take(e, a); b != want {
				t.Fatalf("%v over %v: %v, not %v", a, e, b, want)
			}
		}
	}
}

// W6: an edge's maps are not changed, nor what lies behind their ends, nor kept: another edge of the same memory is another one.
func TestNothingChanged(t *testing.T) {
	back := []api.Clause{{Any: true, With: 1, Set: 2}, {Prefix: api.Prefix{}, Out: 2, More: 3}, {Any: true, Drop: true}}
	kept := slices.Clone(back)
	e := api.Edge{From: 3, Cost: 2000, Export: back[:2], Import: back[1:2]}
	for tags := range 256 {
		edge.Take(e, route(uint8(tags)))
		edge.Row(e, uint8(tags))
	}
	edge.Likes(e)
	edge.Same(e, e)
	if !slices.Equal(back, kept) || e.From != 3 || e.Cost != 2000 || len(e.Export) != 2 || len(e.Import) != 1 {
		t.Error(e, back)
	}
	back[1] = api.Clause{Any: true, Pref: 200}
	if a := edge.Take(e, route(0)); a != (api.Attr{OK: true, Pref: 200, Cost: 1010}) || !edge.Likes(e) {
		t.Error(a)
	}
}

// W2: many at once answer as one alone, of the same edges.
func TestAtOnce(t *testing.T) {
	r := rand.New(rand.NewSource(14))
	edges := make([]api.Edge, 8)
	for i := range edges {
		edges[i] = some(r)
	}
	var all sync.WaitGroup
	for n := range 16 {
		all.Go(func() {
			e, other := edges[n%8], edges[n/2]
			rows := sixteen(e)
			for tags := range 256 {
				a := api.Attr{OK: true, Pref: n, Cost: tags, Tags: uint8(tags)}
				if edge.Take(e, a) != learned(e, a) {
					t.Errorf("%v over %v", a, e)
				}
				if b, _ := edge.Row(e, uint8(tags)); b != rows[tags%16] {
					t.Errorf("%v, tags %d: %v", e, tags, b)
				}
			}
			if edge.Same(e, other) != slices.Equal(rows, sixteen(other)) {
				t.Errorf("%v, %v", e, other)
			}
		})
	}
	all.Wait()
}
