package lower_test

import (
	"fmt"
	"math"
	"math/rand"
	"slices"
	"strconv"
	"strings"
	"sync"
	"testing"

	"maquette/api"
	"maquette/check"
	"maquette/clause"
	"maquette/lower"
	"maquette/parse"
	"maquette/prefix"
)

// read is a text's configuration, which is right.
func read(t *testing.T, s string) api.Config {
	t.Helper()
	c, err := parse.Config(s)
	if err == nil {
		err = check.Config(c)
	}
	if err != nil {
		t.Fatalf("%s: %v", s, err)
	}
	return c
}

// to is the prefix of a text.
func to(t *testing.T, s string) api.Prefix {
	t.Helper()
	p, ok := prefix.Parse(s)
	if !ok {
		t.Fatalf("%s: no prefix", s)
	}
	return p
}

// ten is 10.0.0.0 with so many bits.
func ten(bits int) api.Prefix { return api.Prefix{Addr: 10 << 24, Bits: bits} }

// eleven is 11.0.0.0 with so many bits.
func eleven(bits int) api.Prefix { return api.Prefix{Addr: 11 << 24, Bits: bits} }

// wrong is what may not be prefixes: too few bits, too many, and bits behind their own.
func wrong() []api.Prefix {
	return []api.Prefix{{Bits: -1}, {Bits: 33}, ten(33), ten(-8), ten(0), ten(6), {Addr: 10<<24 + 1, Bits: 8}, {Addr: 1, Bits: 31}, {Bits: math.MinInt}, {Bits: math.MaxInt}, {Addr: math.MaxUint32, Bits: 1 << 32}}
}

// told is all that something has; W7: lists that are nil are told as empty ones are.
func told(what any) string { return fmt.Sprintf("%+v", what) }

func wantNet(t *testing.T, name string, got, want api.Net) {
	t.Helper()
	if told(got) != told(want) {
		t.Errorf("%s:\n%s, not\n%s", name, told(got), told(want))
	}
}

// copied is a configuration whose lists are other memory.
func copied(c api.Config) api.Config {
	c.Maps, c.Routers = slices.Clone(c.Maps), slices.Clone(c.Routers)
	for i := range c.Maps {
		c.Maps[i].Clauses = slices.Clone(c.Maps[i].Clauses)
	}
	for i := range c.Routers {
		r := &c.Routers[i]
		r.Nets, r.Links, r.Statics = slices.Clone(r.Nets), slices.Clone(r.Links), slices.Clone(r.Statics)
	}
	return c
}

// P13.1: Classes.

func wantClasses(t *testing.T, name string, c api.Config, want ...api.Prefix) {
	t.Helper()
	if got := lower.Classes(c); !slices.Equal(got, want) {
		t.Errorf("%s: %v, not %v", name, got, want)
	}
}

// having is a configuration of routers that have nets.
func having(nets ...[]api.Prefix) api.Config {
	var c api.Config
	for i, ps := range nets {
		c.Routers = append(c.Routers, api.Router{Name: "r" + strconv.Itoa(i), Nets: ps})
	}
	return c
}

func TestClassesOfNothing(t *testing.T) {
	wantClasses(t, "nothing", api.Config{})
	wantClasses(t, "no routers", api.Config{Maps: []api.Map{}, Routers: []api.Router{}})
	wantClasses(t, "no nets", having(nil, []api.Prefix{}, nil))
}

// Prefixes of maps and of ways are no nets.
func TestClassesAreNets(t *testing.T) {
	c := read(t, "map m { if 12.0.0.0/8 then drop; } router a { link b cost 1 import m; static 13.0.0.0/8 via b; } router b { link a cost 1; }")
	wantClasses(t, "none has nets", c)
	c = read(t, "map m { if 12.0.0.0/8 then drop; } router a { net 11.0.0.0/8; link b cost 1 import m; static 13.0.0.0/8 via b; } router b { link a cost 1; }")
	wantClasses(t, "a has one", c, eleven(8))
}

func TestClasses(t *testing.T) {
	a, b, c := ten(8), ten(16), eleven(8)
	for _, row := range []struct {
		name string
		nets [][]api.Prefix
		want []api.Prefix
	}{
		{"one", [][]api.Prefix{{a}}, []api.Prefix{a}},
		{"a net of two routers", [][]api.Prefix{{a}, {a}}, []api.Prefix{a}},
		{"a net of all of three", [][]api.Prefix{{a}, {a}, {a}}, []api.Prefix{a}},
		{"a net of two that are not neighbours", [][]api.Prefix{{a}, {c}, {a}}, []api.Prefix{a, c}},
		{"one that a router has twice", [][]api.Prefix{{a, a}}, []api.Prefix{a}},
		{"twice, with another one between", [][]api.Prefix{{a, c, a}}, []api.Prefix{a, c}},
		{"thrice, here and there", [][]api.Prefix{{c, a, c}, {a}, nil, {c}}, []api.Prefix{a, c}},
		{"rising", [][]api.Prefix{{a, b, c}}, []api.Prefix{a, b, c}},
		{"falling", [][]api.Prefix{{c, b, a}}, []api.Prefix{a, b, c}},
		{"falling, a router each", [][]api.Prefix{{c}, {b}, {a}}, []api.Prefix{a, b, c}},
		{"some behind routers without", [][]api.Prefix{nil, {}, {c}, nil, {a}}, []api.Prefix{a, c}},
		{"one address, other bits", [][]api.Prefix{{ten(32)}, {ten(8), ten(31)}, {ten(7), ten(9)}}, []api.Prefix{ten(7), ten(8), ten(9), ten(31), ten(32)}},
		{"an address is ahead of bits", [][]api.Prefix{{eleven(8), ten(32)}}, []api.Prefix{ten(32), eleven(8)}},
		{"all addresses", [][]api.Prefix{{ten(8), {}}, {{}}}, []api.Prefix{{}, ten(8)}},
		{"the highest bit is no sign", [][]api.Prefix{{{Addr: math.MaxUint32, Bits: 32}, {Addr: 1 << 31, Bits: 1}, {Addr: math.MaxInt32, Bits: 32}, {Bits: 1}}}, []api.Prefix{{Bits: 1}, {Addr: math.MaxInt32, Bits: 32}, {Addr: 1 << 31, Bits: 1}, {Addr: math.MaxUint32, Bits: 32}}},
		{"the lowest bit counts", [][]api.Prefix{{{Addr: 1<<24 + 1, Bits: 32}, {Addr: 1 << 24, Bits: 32}}}, []api.Prefix{{Addr: 1 << 24, Bits: 32}, {Addr: 1<<24 + 1, Bits: 32}}},
	} {
		wantClasses(t, row.name, having(row.nets...), row.want...)
	}
}

// Nets that may not be are nets as others are: as they stand, each once, rising.
func TestClassesWrong(t *testing.T) {
	wantClasses(t, "too many bits", having([]api.Prefix{ten(33), ten(32)}, []api.Prefix{ten(33)}), ten(32), ten(33))
	wantClasses(t, "too few bits", having([]api.Prefix{ten(8), ten(-1)}, []api.Prefix{ten(-1)}), ten(-1), ten(8))
	wantClasses(t, "bits at the ends", having([]api.Prefix{ten(math.MaxInt), ten(0), ten(math.MinInt), ten(1 << 32)}), ten(math.MinInt), ten(0), ten(1<<32), ten(math.MaxInt))
	behind := api.Prefix{Addr: 10<<24 + 1, Bits: 8}
	wantClasses(t, "bits behind its own", having([]api.Prefix{behind, eleven(8), ten(8), behind}), ten(8), behind, eleven(8))
	if got := lower.Classes(having(wrong(), wrong())); len(got) != len(wrong()) {
		t.Error(got)
	}
}

// Of several routers of a name all have their nets.
func TestClassesOfOneName(t *testing.T) {
	wantClasses(t, "of one name", api.Config{Routers: []api.Router{{Name: "a", Nets: []api.Prefix{eleven(8)}}, {Name: "a", Nets: []api.Prefix{ten(8)}}, {}}}, ten(8), eleven(8))
}

// By chance: what is answered rises, and has what the routers have, no more and no less.
func TestClassesByChance(t *testing.T) {
	r := rand.New(rand.NewSource(13))
	for range 3000 {
		nets := make([][]api.Prefix, r.Intn(6))
		has := map[api.Prefix]int{}
		for i := range nets {
			for range r.Intn(9) {
				p := api.Prefix{Addr: uint32(r.Intn(3)) << 30, Bits: r.Intn(4)*11 - 1}
				nets[i] = append(nets[i], p)
				has[p]++
			}
		}
		got := lower.Classes(having(nets...))
		for i, p := range got {
			if has[p] == 0 || i > 0 && !(got[i-1].Addr < p.Addr || got[i-1].Addr == p.Addr && got[i-1].Bits < p.Bits) {
				t.Fatalf("%v: %v", nets, got)
			}
		}
		if len(got) != len(has) {
			t.Fatalf("%v: %v", nets, got)
		}
	}
}

// W1: far more nets than a configuration has.
func TestClassesMany(t *testing.T) {
	const many = 1 << 17
	nets := make([]api.Prefix, many)
	for i := range nets {
		nets[i] = api.Prefix{Addr: uint32(many-1-i) / 2, Bits: 32}
	}
	got := lower.Classes(having(nets, nets))
	if len(got) != many/2 || got[0].Addr != 0 || got[many/2-1].Addr != many/2-1 {
		t.Error(len(got))
	}
}

// W6: nets are sorted elsewhere, and nothing of the answer is the routers' own memory, not even behind its end.
func TestClassesNewMemory(t *testing.T) {
	for _, c := range []api.Config{having([]api.Prefix{ten(8), ten(16), eleven(8)}), having([]api.Prefix{eleven(8), ten(8), eleven(8), ten(8)}), having(nil, []api.Prefix{eleven(8), ten(8)}, nil)} {
		kept := copied(c)
		got := lower.Classes(c)
		if told(c) != told(kept) {
			t.Fatalf("changed: %v, not %v", c, kept)
		}
		for i := range got[:cap(got)] {
			got[:cap(got)][i] = api.Prefix{Addr: 99, Bits: 9}
		}
		if told(c) != told(kept) {
			t.Fatalf("shared: %v, not %v", c, kept)
		}
	}
	// A list with room behind its end.
	back := []api.Prefix{eleven(8), ten(8), ten(31), ten(32)}
	lower.Classes(having(back[:2], []api.Prefix{ten(9), ten(10)}))
	if !slices.Equal(back, []api.Prefix{eleven(8), ten(8), ten(31), ten(32)}) {
		t.Error(back)
	}
	// Nor is anything kept: what is changed afterwards is another configuration.
	c := having([]api.Prefix{eleven(8), ten(8)})
	first := lower.Classes(c)
	c.Routers[0].Nets[0] = ten(9)
	if again := lower.Classes(c); !slices.Equal(first, []api.Prefix{ten(8), eleven(8)}) || !slices.Equal(again, []api.Prefix{ten(8), ten(9)}) {
		t.Error(first, again)
	}
}

// P13.2: Net.

// The chapter's example.
func TestNetExample(t *testing.T) {
	c := read(t, "router a { link b cost 3; } router b { net 10.0.0.0/8; link a cost 3; }")
	wantNet(t, "example", lower.Net(c, ten(8)), api.Net{
		Origin: []bool{false, true}, Static: []int{-1, -1},
		Edges: [][]api.Edge{{{From: 1, Cost: 3}}, {{From: 0, Cost: 3}}},
	})
}

// The document's own example.
func TestNetOfFour(t *testing.T) {
	c := read(t, `router a { net 10.0.0.0/8; link b cost 1; link d cost 1; }
		router b { link a cost 1; link c cost 1; }
		router c { link b cost 1; link d cost 1; }
		router d { link a cost 1; link c cost 1; }`)
	between := []api.Edge{{From: 0, Cost: 1}, {From: 2, Cost: 1}}
	ends := []api.Edge{{From: 1, Cost: 1}, {From: 3, Cost: 1}}
	wantNet(t, "four", lower.Net(c, ten(8)), api.Net{
		Origin: []bool{true, false, false, false}, Static: []int{-1, -1, -1, -1},
		Edges: [][]api.Edge{ends, between, ends, between},
	})
}

func TestNetOfNothing(t *testing.T) {
	for _, c := range []api.Config{{}, {Routers: []api.Router{}}, {Maps: []api.Map{{Name: "m", Clauses: []api.Clause{{Any: true}}}}}} {
		for _, p := range append(wrong(), api.Prefix{}, ten(8)) {
			if n := lower.Net(c, p); len(n.Origin)+len(n.Static)+len(n.Edges) != 0 {
				t.Errorf("%v: %v", p, n)
			}
		}
	}
}

// Each router is a node, in order, whatever its name, and whether or not it has anything.
func TestNetNodes(t *testing.T) {
	c := read(t, "router z { } router a { net 10.0.0.0/8; } router m { link b cost 7; } router b { link m cost 9; }")
	wantNet(t, "nodes", lower.Net(c, ten(8)), api.Net{
		Origin: []bool{false, true, false, false}, Static: []int{-1, -1, -1, -1},
		Edges: [][]api.Edge{nil, nil, {{From: 3, Cost: 7}}, {{From: 2, Cost: 9}}},
	})
}

// An origin has the destination itself: one that covers it, or is in it, is another one.
func TestNetOrigin(t *testing.T) {
	c := read(t, `router a { net 10.0.0.0/8; } router b { net 10.0.0.0/16; } router c { } router d { net 11.0.0.0/8; net 0.0.0.0/0; net 10.0.0.0/8; }
		router e { net 10.0.0.0/7; } router f { net 10.0.0.0/9; net 10.128.0.0/9; } router g { net 0.0.0.0/0; }`)
	for s, want := range map[string][]bool{
		"10.0.0.0/8":  {true, false, false, true, false, false, false},
		"10.0.0.0/16": {false, true, false, false, false, false, false},
		"11.0.0.0/8":  {false, false, false, true, false, false, false},
		"0.0.0.0/0":   {false, false, false, true, false, false, true},
		"10.0.0.0/7":  {false, false, false, false, true, false, false},
		"10.0.0.0/9":  {false, false, false, false, false, true, false},
		// The last one of a router's nets, and what none has.
		"10.128.0.0/9": {false, false, false, false, false, true, false},
		"10.0.0.0/32":  make([]bool, 7),
		"12.0.0.0/8":   make([]bool, 7),
	} {
		n := lower.Net(c, to(t, s))
		if !slices.Equal(n.Origin, want) {
			t.Errorf("%s: %v, not %v", s, n.Origin, want)
		}
		if !slices.Equal(n.Static, []int{-1, -1, -1, -1, -1, -1, -1}) || told(n.Edges) != told(make([][]api.Edge, 7)) {
			t.Errorf("%s: %v", s, n)
		}
	}
}

// star is a text: a router a that has these ways, and is linked to b, c, d and e.
func star(ways string) string {
	s := "router a { link b cost 1; link c cost 1; link d cost 1; link e cost 1; " + ways + " }"
	for _, name := range []string{"b", "c", "d", "e"} {
		s += " router " + name + " { link a cost 1; }"
	}
	return s
}

func TestNetStatic(t *testing.T) {
	for _, row := range []struct {
		ways, to string
		want     int
	}{
		{"", "10.0.0.0/8", -1},
		{"static 10.0.0.0/8 via c;", "10.0.0.0/8", 2},
		{"static 10.0.0.0/8 via c;", "10.1.0.0/16", 2},
		{"static 10.0.0.0/8 via c;", "10.255.255.255/32", 2},
		{"static 0.0.0.0/0 via e;", "10.0.0.0/8", 4},
		{"static 0.0.0.0/0 via e;", "0.0.0.0/0", 4},
		{"static 10.0.0.0/7 via b;", "11.0.0.0/8", 1},
		// What it does not cover: another one, and one that is in it.
		{"static 10.0.0.0/8 via c;", "11.0.0.0/8", -1},
		{"static 10.0.0.0/8 via c;", "10.0.0.0/7", -1},
		{"static 10.0.0.0/8 via c;", "0.0.0.0/0", -1},
		{"static 10.0.0.0/9 via c;", "10.0.0.0/8", -1},
		{"static 10.0.0.0/9 via c;", "10.128.0.0/9", -1},
		{"static 10.0.0.0/32 via c;", "10.0.0.1/32", -1},
		// Of several the one of most bits, in whatever order.
		{"static 0.0.0.0/0 via b; static 10.0.0.0/8 via c; static 10.1.0.0/16 via d;", "10.1.2.0/24", 3},
		{"static 10.1.0.0/16 via d; static 10.0.0.0/8 via c; static 0.0.0.0/0 via b;", "10.1.2.0/24", 3},
		{"static 10.0.0.0/8 via c; static 10.1.0.0/16 via d; static 0.0.0.0/0 via b;", "10.1.2.0/24", 3},
		{"static 10.1.0.0/16 via d; static 0.0.0.0/0 via b; static 10.0.0.0/8 via c;", "10.1.2.0/24", 3},
		{"static 0.0.0.0/0 via b; static 10.1.0.0/16 via d; static 10.0.0.0/8 via c;", "10.1.0.0/16", 3},
		{"static 0.0.0.0/0 via b; static 0.0.0.0/1 via d;", "10.1.0.0/16", 3},
		{"static 10.1.0.0/31 via b; static 10.1.0.0/32 via d;", "10.1.0.0/32", 3},
		{"static 10.1.0.0/32 via d; static 10.1.0.0/31 via b;", "10.1.0.0/32", 3},
		// Those of more bits that do not cover it do not count.
		{"static 10.2.0.0/16 via d; static 10.0.0.0/8 via c; static 10.1.2.3/32 via e;", "10.1.2.0/24", 2},
		{"static 10.0.0.0/8 via c; static 10.1.2.128/25 via d; static 0.0.0.0/0 via b;", "10.1.2.0/24", 2},
		{"static 11.0.0.0/8 via c; static 0.0.0.0/0 via b; static 12.0.0.0/8 via d;", "10.1.2.0/24", 1},
		// Several by one neighbour.
		{"static 0.0.0.0/0 via c; static 10.0.0.0/8 via c;", "10.0.0.0/8", 2},
	} {
		c := read(t, star(row.ways))
		if n := lower.Net(c, to(t, row.to)); !slices.Equal(n.Static, []int{row.want, -1, -1, -1, -1}) {
			t.Errorf("%s to %s: %v, not %d", row.ways, row.to, n.Static, row.want)
		}
	}
}

// Ways are each router's own; one that goes to the first node is one, too; and it says nothing of origins or edges.
func TestNetStaticOfAll(t *testing.T) {
	c := read(t, `router a { net 10.0.0.0/8; link b cost 1; static 10.0.0.0/8 via b; } router b { link a cost 1; link c cost 1; static 0.0.0.0/0 via a; }
		router c { link b cost 1; }`)
	wantNet(t, "ways", lower.Net(c, ten(8)), api.Net{
		Origin: []bool{true, false, false}, Static: []int{1, 0, -1},
		Edges: [][]api.Edge{{{From: 1, Cost: 1}}, {{From: 0, Cost: 1}, {From: 2, Cost: 1}}, {{From: 1, Cost: 1}}},
	})
	wantNet(t, "elsewhere", lower.Net(c, eleven(8)), api.Net{
		Origin: make([]bool, 3), Static: []int{-1, 0, -1},
		Edges: [][]api.Edge{{{From: 1, Cost: 1}}, {{From: 0, Cost: 1}, {From: 2, Cost: 1}}, {{From: 1, Cost: 1}}},
	})
}

// Edges stand in the order of the links, each with its own cost; a peer's cost is another one's.
func TestNetEdges(t *testing.T) {
	c := read(t, `router a { link d cost 4; link b cost 1000; link c cost 3; } router b { link a cost 20; }
		router c { link d cost 31; link a cost 30; } router d { link a cost 40; link c cost 41; }`)
	wantNet(t, "edges", lower.Net(c, ten(8)), api.Net{
		Origin: make([]bool, 4), Static: []int{-1, -1, -1, -1},
		Edges: [][]api.Edge{
			{{From: 3, Cost: 4}, {From: 1, Cost: 1000}, {From: 2, Cost: 3}},
			{{From: 0, Cost: 20}},
			{{From: 3, Cost: 31}, {From: 0, Cost: 30}},
			{{From: 0, Cost: 40}, {From: 2, Cost: 41}},
		},
	})
}

// named is a map's only clause, told apart by how it likes routes.
func named(pref int) []api.Clause { return []api.Clause{{Any: true, Pref: pref}} }

// Import is the map at the router's own link, Export the one at its peer's link back, in its Export.
func TestNetMaps(t *testing.T) {
	maps := "map m1 { if any then pref 1; } map m2 { if any then pref 2; } map m3 { if any then pref 3; } map m4 { if any then pref 4; } "
	for _, row := range []struct {
		a, b                               string
		aExport, aImport, bExport, bImport int
	}{
		{"", "", 0, 0, 0, 0},
		{"import m1", "", 0, 1, 0, 0},
		{"export m2", "", 0, 0, 2, 0},
		{"", "import m3", 0, 0, 0, 3},
		{"", "export m4", 4, 0, 0, 0},
		{"import m1 export m2", "", 0, 1, 2, 0},
		{"", "import m3 export m4", 4, 0, 0, 3},
		{"import m1", "import m3", 0, 1, 0, 3},
		{"export m2", "export m4", 4, 0, 2, 0},
		{"import m1 export m2", "import m3 export m4", 4, 1, 2, 3},
		{"import m1 export m1", "import m1 export m1", 1, 1, 1, 1},
		{"import m4 export m3", "import m2 export m1", 1, 4, 3, 2},
	} {
		c := read(t, maps+"router a { link b cost 5 "+row.a+"; } router b { link a cost 6 "+row.b+"; }")
		var cs [4][]api.Clause
		for i, pref := range []int{row.aExport, row.aImport, row.bExport, row.bImport} {
			if pref > 0 {
				cs[i] = named(pref)
			}
		}
		wantNet(t, row.a+", "+row.b, lower.Net(c, ten(8)), api.Net{
			Origin: make([]bool, 2), Static: []int{-1, -1},
			Edges: [][]api.Edge{{{From: 1, Cost: 5, Export: cs[0], Import: cs[1]}}, {{From: 0, Cost: 6, Export: cs[2], Import: cs[3]}}},
		})
	}
}

// Each link names maps of its own, and it is the link back that is asked, not the first one of the peer.
func TestNetMapsOfLinks(t *testing.T) {
	c := read(t, `map m1 { if any then pref 1; } map m2 { if any then pref 2; } map m3 { if any then pref 3; } map m0 { }
		router a { link b cost 1 import m1; link c cost 1 import m2 export m3; }
		router b { link c cost 1 export m1; link a cost 1 import m0 export m2; }
		router c { link b cost 1 import m3 export m0; link a cost 1; }`)
	wantNet(t, "maps of links", lower.Net(c, ten(8)), api.Net{
		Origin: make([]bool, 3), Static: []int{-1, -1, -1},
		Edges: [][]api.Edge{
			{{From: 1, Cost: 1, Export: named(2), Import: named(1)}, {From: 2, Cost: 1, Import: named(2)}},
			{{From: 2, Cost: 1}, {From: 0, Cost: 1}},
			{{From: 1, Cost: 1, Export: named(1), Import: named(3)}, {From: 0, Cost: 1, Export: named(3)}},
		},
	})
}

// Of a map those clauses are there that work on the destination, for any; up to one that works on all routes.
func TestNetFor(t *testing.T) {
	c := read(t, `map m { if 10.0.0.0/8 with 1 then more 2; if 11.0.0.0/8 then drop; if any with 2 out 3 then set 0; if 10.1.0.0/16 then pref 7; if any then clear 1; if any then drop; }
		router a { link b cost 1 import m; } router b { link a cost 1 export m; }`)
	more := api.Clause{Any: true, With: 2, More: 2}
	some := api.Clause{Any: true, With: 4, Out: 8, Set: 1}
	cleared := api.Clause{Any: true, Clear: 2}
	for s, want := range map[string][]api.Clause{
		"10.0.0.0/8":  {more, some, cleared},
		"10.2.0.0/16": {more, some, cleared},
		"10.1.0.0/16": {more, some, {Any: true, Pref: 7}},
		"10.1.9.0/24": {more, some, {Any: true, Pref: 7}},
		"11.0.0.0/8":  {{Any: true, Drop: true}},
		"11.9.0.0/16": {{Any: true, Drop: true}},
		"12.0.0.0/8":  {some, cleared},
		"10.0.0.0/7":  {some, cleared},
		"0.0.0.0/0":   {some, cleared},
	} {
		n := lower.Net(c, to(t, s))
		wantNet(t, s, n, api.Net{
			Origin: make([]bool, 2), Static: []int{-1, -1},
			Edges: [][]api.Edge{{{From: 1, Cost: 1, Export: want, Import: want}}, {{From: 0, Cost: 1}}},
		})
	}
	// A map of which none works there is as no map.
	c = read(t, "map m { if 10.0.0.0/8 then drop; } router a { link b cost 1 import m export m; } router b { link a cost 1 import m export m; }")
	n := lower.Net(c, eleven(8))
	for _, e := range [][]api.Edge{n.Edges[0], n.Edges[1]} {
		if len(e) != 1 || len(e[0].Import)+len(e[0].Export) != 0 {
			t.Error(n)
		}
	}
}

// A destination that no router has makes a network as others do: without origins.
func TestNetElsewhere(t *testing.T) {
	c := read(t, "map m { if any then more 3; } router a { net 10.0.0.0/8; link b cost 2 import m; static 0.0.0.0/0 via b; } router b { net 11.0.0.0/8; link a cost 3; }")
	wantNet(t, "elsewhere", lower.Net(c, to(t, "12.0.0.0/8")), api.Net{
		Origin: make([]bool, 2), Static: []int{1, -1},
		Edges: [][]api.Edge{{{From: 1, Cost: 2, Import: []api.Clause{{Any: true, More: 3}}}}, {{From: 0, Cost: 3}}},
	})
}

// Of configurations that are not right.

// A link whose peer is no router has no edge; those ahead of it and behind it have theirs.
func TestNetNoPeer(t *testing.T) {
	c := api.Config{Routers: []api.Router{
		{Name: "a", Links: []api.Link{{Peer: "x", Cost: 1}, {Peer: "b", Cost: 2}, {Peer: "", Cost: 3}, {Peer: "B", Cost: 4}, {Peer: "c", Cost: 5}, {Peer: "bb", Cost: 6}}},
		{Name: "b", Links: []api.Link{{Peer: "nobody", Cost: 1}}},
		{Name: "c", Links: []api.Link{{Peer: "a", Cost: 7}}},
	}}
	wantNet(t, "no peer", lower.Net(c, ten(8)), api.Net{
		Origin: make([]bool, 3), Static: []int{-1, -1, -1},
		Edges: [][]api.Edge{{{From: 1, Cost: 2}, {From: 2, Cost: 5}}, nil, {{From: 0, Cost: 7}}},
	})
}

// Of several routers of a name the last one counts: for links, for links back, and for ways. All are nodes.
func TestNetTwice(t *testing.T) {
	c := api.Config{
		Maps: []api.Map{{Name: "m1", Clauses: named(1)}, {Name: "m2", Clauses: named(2)}, {Name: "m3", Clauses: named(3)}},
		Routers: []api.Router{
			{Name: "b", Nets: []api.Prefix{ten(8)}, Links: []api.Link{{Peer: "a", Cost: 5, Export: "m1"}}},
			{Name: "a", Links: []api.Link{{Peer: "b", Cost: 6, Export: "m3"}}, Statics: []api.Static{{Prefix: ten(8), Via: "b"}}},
			{Name: "b", Links: []api.Link{{Peer: "a", Cost: 7, Import: "m2", Export: "m2"}}},
			{Name: "c"},
		},
	}
	want := api.Net{
		Origin: []bool{true, false, false, false}, Static: []int{-1, 2, -1, -1},
		Edges: [][]api.Edge{{{From: 1, Cost: 5, Export: named(3)}}, {{From: 2, Cost: 6, Export: named(2)}}, {{From: 1, Cost: 7, Export: named(3), Import: named(2)}}, nil},
	}
	wantNet(t, "twice", lower.Net(c, ten(8)), want)
	// Of three the last one.
	c.Routers[3].Name = "b"
	want.Static[1], want.Edges[1] = 3, []api.Edge{{From: 3, Cost: 6}}
	wantNet(t, "thrice", lower.Net(c, ten(8)), want)
}

// A link whose peer does not link back is an edge without Export.
func TestNetNoLinkBack(t *testing.T) {
	c := api.Config{
		Maps: []api.Map{{Name: "m", Clauses: named(1)}},
		Routers: []api.Router{
			{Name: "a", Links: []api.Link{{Peer: "b", Cost: 2, Import: "m", Export: "m"}}},
			{Name: "b", Links: []api.Link{{Peer: "c", Cost: 3, Export: "m"}}},
			{Name: "c"},
		},
	}
	wantNet(t, "no link back", lower.Net(c, ten(8)), api.Net{
		Origin: make([]bool, 3), Static: []int{-1, -1, -1},
		Edges: [][]api.Edge{{{From: 1, Cost: 2, Import: named(1)}}, {{From: 2, Cost: 3}}, nil},
	})
}

// A map that is not there is none; an empty name is none even where a map has it.
func TestNetNoMap(t *testing.T) {
	c := api.Config{
		Maps: []api.Map{{Name: "", Clauses: named(9)}, {Name: "m", Clauses: named(1)}},
		Routers: []api.Router{
			{Name: "a", Links: []api.Link{{Peer: "b", Cost: 2, Import: "x", Export: "m"}}},
			{Name: "b", Links: []api.Link{{Peer: "a", Cost: 3, Export: "M"}, {Peer: "c", Cost: 4}}},
			{Name: "c", Links: []api.Link{{Peer: "b", Cost: 5, Import: "m"}}},
		},
	}
	wantNet(t, "no map", lower.Net(c, ten(8)), api.Net{
		Origin: make([]bool, 3), Static: []int{-1, -1, -1},
		Edges: [][]api.Edge{{{From: 1, Cost: 2}}, {{From: 0, Cost: 3, Export: named(1)}, {From: 2, Cost: 4}}, {{From: 1, Cost: 5, Import: named(1)}}},
	})
}

// A router may have an empty name, if nobody reads it from a text: a way by no name is told by that router alone.
func TestNetEmptyNames(t *testing.T) {
	c := api.Config{Routers: []api.Router{{Name: "a", Statics: []api.Static{{Prefix: ten(8), Via: ""}}}, {Name: "b"}}}
	if n := lower.Net(c, ten(8)); !slices.Equal(n.Static, []int{-1, -1}) {
		t.Error(n)
	}
	c.Routers[1].Name = ""
	if n := lower.Net(c, ten(8)); !slices.Equal(n.Static, []int{1, -1}) {
		t.Error(n)
	}
	if n := lower.Net(c, eleven(8)); !slices.Equal(n.Static, []int{-1, -1}) {
		t.Error(n)
	}
}

// A router's link to itself, links there twice, costs that there are not, and destinations that may not be.
func TestNetOdd(t *testing.T) {
	c := api.Config{
		Maps: []api.Map{{Name: "m", Clauses: []api.Clause{{Prefix: ten(0)}, {Prefix: ten(8), Drop: true}, {Any: true, With: 255, More: math.MinInt, Pref: math.MaxInt}}}},
		Routers: []api.Router{{
			Name: "a", Nets: []api.Prefix{ten(33), ten(8)},
			Links:   []api.Link{{Peer: "a", Cost: math.MinInt, Import: "m"}, {Peer: "a", Cost: math.MaxInt, Export: "m"}},
			Statics: []api.Static{{Prefix: ten(33), Via: "a"}, {Prefix: api.Prefix{Bits: math.MaxInt}, Via: "a"}, {Prefix: api.Prefix{Bits: -1}, Via: "a"}},
		}},
	}
	last := api.Clause{Any: true, With: 255, More: math.MinInt, Pref: math.MaxInt}
	wantNet(t, "itself", lower.Net(c, ten(8)), api.Net{
		Origin: []bool{true}, Static: []int{-1},
		Edges: [][]api.Edge{{{Cost: math.MinInt, Import: []api.Clause{{Any: true, Drop: true}}}, {Cost: math.MaxInt}}},
	})
	// What may not be is in nothing, but it is itself.
	for _, p := range wrong() {
		wantNet(t, told(p), lower.Net(c, p), api.Net{
			Origin: []bool{p == ten(33)}, Static: []int{-1},
			Edges: [][]api.Edge{{{Cost: math.MinInt, Import: []api.Clause{last}}, {Cost: math.MaxInt}}},
		})
	}
}

// Ways that are wrong send nowhere: by prefixes that may not be, and by names that no router has.
func TestNetWrongWays(t *testing.T) {
	for _, p := range wrong() {
		c := api.Config{Routers: []api.Router{{Name: "a", Statics: []api.Static{{Prefix: p, Via: "a"}}}}}
		for _, of := range append(wrong(), api.Prefix{}, ten(8), ten(32)) {
			if n := lower.Net(c, of); !slices.Equal(n.Static, []int{-1}) {
				t.Errorf("%v to %v: %v", p, of, n.Static)
			}
		}
		c.Routers[0].Statics = append(c.Routers[0].Statics, api.Static{Via: "a"})
		if n := lower.Net(c, ten(8)); !slices.Equal(n.Static, []int{0}) {
			t.Errorf("%v, and one that is right: %v", p, n.Static)
		}
	}
	c := api.Config{Routers: []api.Router{{Name: "a", Statics: []api.Static{{Prefix: ten(8), Via: "x"}}}}}
	if n := lower.Net(c, ten(8)); !slices.Equal(n.Static, []int{-1}) {
		t.Error(n)
	}
	// W7: of those that are there twice the first one is told.
	c = read(t, star(""))
	c.Routers[0].Statics = []api.Static{{Prefix: ten(8), Via: "d"}, {Prefix: ten(8), Via: "b"}}
	if n := lower.Net(c, ten(8)); n.Static[0] != 3 {
		t.Error(n)
	}
}

// W1: far more routers, links and clauses than a configuration has.
func TestNetMany(t *testing.T) {
	const many = 3000
	c := api.Config{Maps: []api.Map{{Name: "m", Clauses: slices.Repeat([]api.Clause{{Prefix: eleven(8)}}, 1000)}}, Routers: make([]api.Router, many)}
	for i := range c.Routers {
		c.Routers[i].Name = strings.Repeat("x", 20) + strconv.Itoa(i)
	}
	for i := 1; i < many; i++ {
		c.Routers[0].Links = append(c.Routers[0].Links, api.Link{Peer: c.Routers[i].Name, Cost: i, Import: "m"})
		c.Routers[i].Links = []api.Link{{Peer: c.Routers[0].Name, Cost: 1, Export: "m"}}
	}
	n := lower.Net(c, ten(8))
	for i := 1; i < many; i++ {
		if e := n.Edges[0][i-1]; e.From != i || e.Cost != i || len(n.Edges[i]) != 1 || n.Edges[i][0].From != 0 {
			t.Fatal(i, e, n.Edges[i])
		}
	}
}

// Both.

// nodeOf is the last router of a name; -1, if none has it.
func nodeOf(c api.Config, name string) int {
	for i := len(c.Routers) - 1; i >= 0; i-- {
		if c.Routers[i].Name == name {
			return i
		}
	}
	return -1
}

// left is what the map of a name does to routes to a destination.
func left(c api.Config, name string, to api.Prefix) []api.Clause {
	at := slices.IndexFunc(c.Maps, func(m api.Map) bool { return name != "" && m.Name == name })
	if at < 0 {
		return nil
	}
	return clause.For(c.Maps[at].Clauses, to)
}

// network is P13.2, word by word: ways are gone through from the fewest bits on, links back by all links of the peer.
func network(c api.Config, to api.Prefix) api.Net {
	n := api.Net{Origin: make([]bool, len(c.Routers)), Static: make([]int, len(c.Routers)), Edges: make([][]api.Edge, len(c.Routers))}
	for i, r := range c.Routers {
		for _, p := range r.Nets {
			n.Origin[i] = n.Origin[i] || p.Addr == to.Addr && p.Bits == to.Bits
		}
		n.Static[i] = -1
		for bits := 0; bits <= 32; bits++ {
			at := slices.IndexFunc(r.Statics, func(s api.Static) bool { return s.Prefix.Bits == bits && prefix.Covers(s.Prefix, to) })
			if at >= 0 {
				n.Static[i] = nodeOf(c, r.Statics[at].Via)
			}
		}
		for _, l := range r.Links {
			e := api.Edge{From: nodeOf(c, l.Peer), Cost: l.Cost, Import: left(c, l.Import, to)}
			if e.From < 0 {
				continue
			}
			for _, back := range slices.Backward(c.Routers[e.From].Links) {
				if back.Peer == r.Name {
					e.Export = left(c, back.Export, to)
				}
			}
			n.Edges[i] = append(n.Edges[i], e)
		}
	}
	return n
}

// one is one of several by chance.
func one[T any](r *rand.Rand, of ...T) T { return of[r.Intn(len(of))] }

// somewhere is a prefix by chance, of few, so that they often cover one another.
func somewhere(r *rand.Rand) api.Prefix {
	return one(r, api.Prefix{}, api.Prefix{Bits: 1}, api.Prefix{Bits: 4}, api.Prefix{Addr: 1 << 31, Bits: 1}, ten(7), ten(8), ten(9), ten(16), ten(32), eleven(8), eleven(32))
}

// maps are maps m0 to m3 by chance.
func maps(r *rand.Rand) []api.Map {
	ms := make([]api.Map, 4)
	for i := range ms {
		ms[i].Name = "m" + strconv.Itoa(i)
		for range r.Intn(6) {
			c := api.Clause{Any: r.Intn(3) == 0, With: uint8(r.Intn(16) & r.Intn(16)), Out: uint8(r.Intn(16) & r.Intn(16)), Drop: r.Intn(5) == 0, Set: uint8(r.Intn(16)), Clear: uint8(r.Intn(16)), More: r.Intn(16), Pref: r.Intn(256)}
			if !c.Any {
				c.Prefix = somewhere(r)
			}
			ms[i].Clauses = append(ms[i].Clauses, c)
		}
	}
	return ms
}

// right is a configuration by chance that is right.
func right(r *rand.Rand) api.Config {
	c := api.Config{Maps: maps(r), Routers: make([]api.Router, 1+r.Intn(7))}
	for i, n := range r.Perm(len(c.Routers)) {
		c.Routers[i].Name = string(rune('a' + n))
	}
	link := func(i, k int) {
		l := api.Link{Peer: c.Routers[k].Name, Cost: 1 + r.Intn(1000), Import: one(r, "", "m0", "m1", "m2", "m3"), Export: one(r, "", "m0", "m1", "m2", "m3")}
		c.Routers[i].Links = append(c.Routers[i].Links, l)
	}
	for _, i := range r.Perm(len(c.Routers)) {
		for k := range i {
			if r.Intn(2) == 0 {
				link(i, k)
				link(k, i)
			}
		}
	}
	for i := range c.Routers {
		each := &c.Routers[i]
		r.Shuffle(len(each.Links), func(i, k int) { each.Links[i], each.Links[k] = each.Links[k], each.Links[i] })
		for range r.Intn(4) {
			if p := somewhere(r); !slices.Contains(each.Nets, p) {
				each.Nets = append(each.Nets, p)
			}
			p := somewhere(r)
			if len(each.Links) > 0 && !slices.ContainsFunc(each.Statics, func(s api.Static) bool { return s.Prefix == p }) {
				each.Statics = append(each.Statics, api.Static{Prefix: p, Via: one(r, each.Links...).Peer})
			}
		}
	}
	return c
}

// By chance: of all configurations that are right, for all their destinations and for others.
func TestNetByChance(t *testing.T) {
	r := rand.New(rand.NewSource(130))
	edges, ways := 0, 0
	for range 1500 {
		c := right(r)
		if err := check.Config(c); err != nil {
			t.Fatal(err, c)
		}
		kept := told(c)
		for _, p := range append(lower.Classes(c), somewhere(r), one(r, wrong()...)) {
			n, want := lower.Net(c, p), network(c, p)
			if told(n) != told(want) {
				t.Fatalf("%+v to %v:\n%+v, not\n%+v", c, p, n, want)
			}
			edges += len(slices.Concat(n.Edges...))
			ways += len(slices.DeleteFunc(n.Static, func(at int) bool { return at < 0 }))
		}
		if told(c) != kept {
			t.Fatalf("changed: %+v", c)
		}
	}
	if edges < 10000 || ways < 1000 {
		t.Error("too few:", edges, ways)
	}
}

// wild is a configuration by chance that is seldom right: few names, none of them sure to be there. A map's name is there once, since nothing is said of others.
func wild(r *rand.Rand) api.Config {
	c := api.Config{Maps: maps(r)[:r.Intn(5)], Routers: make([]api.Router, r.Intn(6))}
	name := func() string { return one(r, "", "a", "b", "c", "d", "m1") }
	called := func() string { return one(r, "", "a", "m0", "m1", "m2", "m3", "m4") }
	where := func() api.Prefix { return one(r, somewhere(r), somewhere(r), one(r, wrong()...)) }
	for i := range c.Maps {
		for k := range c.Maps[i].Clauses {
			c.Maps[i].Clauses[k].Prefix = where()
		}
	}
	for i := range c.Routers {
		each := &c.Routers[i]
		each.Name = name()
		for range r.Intn(5) {
			each.Nets = append(each.Nets, where())
			each.Links = append(each.Links, api.Link{Peer: name(), Cost: r.Intn(2000) - 500, Import: called(), Export: called()})
			each.Statics = append(each.Statics, api.Static{Prefix: where(), Via: name()})
		}
	}
	return c
}

func TestNetByChanceOfOthers(t *testing.T) {
	r := rand.New(rand.NewSource(131))
	for range 4000 {
		c := wild(r)
		kept := told(c)
		for _, p := range append(lower.Classes(c), somewhere(r), one(r, wrong()...)) {
			if n, want := lower.Net(c, p), network(c, p); told(n) != told(want) {
				t.Fatalf("%+v to %v:\n%+v, not\n%+v", c, p, n, want)
			}
		}
		if told(c) != kept {
			t.Fatalf("changed: %+v", c)
		}
	}
}

// busy is a configuration where one map is at many links, those of one router with room behind their ends.
func busy(t *testing.T) api.Config {
	c := read(t, `map m { if any with 1 then more 2; if 10.0.0.0/8 with 2 then drop; if any then pref 9; }
		router a { net 10.0.0.0/8; link b cost 1 import m export m; link c cost 2 import m export m; static 10.0.0.0/8 via c; }
		router b { net 10.0.0.0/8; link a cost 3 import m export m; static 0.0.0.0/0 via a; } router c { link a cost 4 import m export m; }`)
	c.Routers[0].Nets = slices.Grow(c.Routers[0].Nets, 4)
	c.Routers[0].Links = slices.Grow(c.Routers[0].Links, 4)
	c.Maps[0].Clauses = slices.Grow(c.Maps[0].Clauses, 4)
	return c
}

// spoil writes over all that a network has, and over what its lists have room for.
func spoil(n api.Net) {
	for i := range n.Origin[:cap(n.Origin)] {
		n.Origin[:cap(n.Origin)][i] = true
	}
	for i := range n.Static[:cap(n.Static)] {
		n.Static[:cap(n.Static)][i] = 77
	}
	for i, es := range n.Edges {
		for k := range es[:cap(es)] {
			e := &es[:cap(es)][k]
			spoilClauses(e.Export)
			spoilClauses(e.Import)
			*e = api.Edge{From: 77, Cost: 77}
		}
		n.Edges[i] = nil
	}
}

func spoilClauses(cs []api.Clause) {
	for i := range cs[:cap(cs)] {
		cs[:cap(cs)][i] = api.Clause{Drop: true, Set: 7, More: 7, Pref: 7}
	}
}

// W6: what is done to an answer changes neither the configuration nor what was answered ahead, nor what is answered behind.
func TestNetNewMemory(t *testing.T) {
	c := busy(t)
	kept := told(c)
	first := lower.Net(c, ten(8))
	want := told(first)
	spoil(lower.Net(c, ten(8)))
	if told(c) != kept || told(first) != want {
		t.Errorf("%+v, %+v", c, first)
	}
	if again := lower.Net(c, ten(8)); told(again) != want {
		t.Errorf("%+v", again)
	}
}

// No two lists of an answer are the same memory, though they come of one map.
func TestNetOwnLists(t *testing.T) {
	c := busy(t)
	for i, es := range lower.Net(c, ten(8)).Edges {
		for k := range es {
			for which := range 2 {
				n := lower.Net(c, ten(8))
				cs := &n.Edges[i][k].Export
				if which == 1 {
					cs = &n.Edges[i][k].Import
				}
				if len(*cs) != 3 {
					t.Fatal(n)
				}
				was := slices.Clone(*cs)
				spoilClauses(*cs)
				*cs = was
				wantNet(t, "one list alone", n, network(c, ten(8)))
			}
		}
	}
}

// W6: nothing is kept: what is changed afterwards is another configuration, and a network that was answered stays.
func TestNetKeepsNothing(t *testing.T) {
	c := busy(t)
	first := lower.Net(c, ten(8))
	want := told(first)
	c.Maps[0].Clauses[0].Any = false
	c.Maps[0].Name = "other"
	c.Routers[0].Nets[0] = eleven(8)
	c.Routers[0].Statics[0].Via = "b"
	c.Routers[0].Links[0].Cost = 50
	c.Routers[2].Name = "x"
	if told(first) != want {
		t.Errorf("%+v", first)
	}
	wantNet(t, "changed", lower.Net(c, ten(8)), network(c, ten(8)))
}

// W2: many at once answer as one alone, of the same configurations.
func TestAtOnce(t *testing.T) {
	r := rand.New(rand.NewSource(132))
	cs := make([]api.Config, 8)
	for i := range cs {
		cs[i] = right(r)
	}
	var all sync.WaitGroup
	for i := range 16 {
		all.Go(func() {
			for range 50 {
				c := cs[i%8]
				for _, p := range lower.Classes(c) {
					if n := lower.Net(c, p); told(n) != told(network(c, p)) {
						t.Errorf("%v: %+v", p, n)
					}
				}
			}
		})
	}
	all.Wait()
}
