package clause_test

import (
	"math"
	"math/rand"
	"slices"
	"sync"
	"testing"

	"maquette/api"
	"maquette/clause"
)

// ten is 10.0.0.0 with so many bits.
func ten(bits int) api.Prefix { return api.Prefix{Addr: 10 << 24, Bits: bits} }

// eleven is 11.0.0.0 with so many bits.
func eleven(bits int) api.Prefix { return api.Prefix{Addr: 11 << 24, Bits: bits} }

// wrong is what may not be prefixes: too few bits, too many, and bits behind their own.
func wrong() []api.Prefix {
	return []api.Prefix{
		{Bits: -1},
		{Bits: 33},
		{Addr: 10 << 24, Bits: 33},
		{Addr: 10 << 24, Bits: -8},
		{Addr: 10 << 24, Bits: 0},
		{Addr: 10<<24 + 1, Bits: 8},
		{Addr: 1, Bits: 31},
		{Bits: math.MinInt},
		{Bits: math.MaxInt},
		{Addr: math.MaxUint32, Bits: 1 << 32},
	}
}

// route is one that is OK, as an origin's, with some tags.
func route(tags uint8) api.Attr { return api.Attr{OK: true, Pref: 100, Cost: 5, Tags: tags} }

// inside tells whether a prefix covers another one, by addresses: all the one has are from the other's first to its last one.
func inside(p, of api.Prefix) bool {
	for _, each := range []api.Prefix{p, of} {
		if each.Bits < 0 || each.Bits > 32 || uint64(each.Addr)%many(each) != 0 {
			return false
		}
	}
	from, to := uint64(p.Addr), uint64(p.Addr)+many(p)
	return uint64(of.Addr) >= from && uint64(of.Addr)+many(of) <= to
}

// many is how many addresses a prefix of 0 to 32 bits has.
func many(p api.Prefix) uint64 { return 1 << (32 - p.Bits) }

// told is P11.1, bit by bit.
func told(c api.Clause, to api.Prefix, tags uint8) bool {
	for bit := range 8 {
		has := tags>>bit&1 == 1
		if c.With>>bit&1 == 1 && !has || c.Out>>bit&1 == 1 && has {
			return false
		}
	}
	return c.Any || inside(c.Prefix, to)
}

// done is P11.2, word by word.
func done(cs []api.Clause, to api.Prefix, a api.Attr) api.Attr {
	at := slices.IndexFunc(cs, func(c api.Clause) bool { return told(c, to, a.Tags) })
	if !a.OK || at >= 0 && cs[at].Drop {
		return api.Attr{}
	}
	if at < 0 {
		return a
	}
	c, b := cs[at], api.Attr{OK: true, Pref: a.Pref, Cost: a.Cost}
	for bit := range 4 {
		if (a.Tags>>bit&1 == 1 || c.Set>>bit&1 == 1) && c.Clear>>bit&1 == 0 {
			b.Tags += 1 << bit
		}
	}
	for more := 1; more <= 15 && more <= c.More; more++ {
		b.Cost++
	}
	if c.Pref > 0 && c.Pref < 256 {
		b.Pref = c.Pref
	}
	return b
}

// left is P11.3: of those that lead there, up to the first one that works on all routes.
func left(cs []api.Clause, to api.Prefix) []api.Clause {
	all := []api.Clause{}
	for _, c := range cs {
		if c.Any || inside(c.Prefix, to) {
			all = append(all, api.Clause{Any: true, With: c.With, Out: c.Out, Drop: c.Drop, Set: c.Set, Clear: c.Clear, More: c.More, Pref: c.Pref})
		}
	}
	at := slices.IndexFunc(all, func(c api.Clause) bool { return c.With|c.Out == 0 })
	if at < 0 {
		return all
	}
	return all[:at+1]
}

// P11.1: Matches.

func TestMatchesByPrefix(t *testing.T) {
	for _, row := range []struct {
		p, to api.Prefix
		want  bool
	}{
		{ten(8), ten(8), true},
		{ten(8), ten(9), true},
		{ten(8), ten(32), true},
		{ten(8), api.Prefix{Addr: 10<<24 + 1<<16, Bits: 16}, true},
		{ten(8), api.Prefix{Addr: 10<<24 + 1<<24 - 1, Bits: 32}, true},
		{ten(7), eleven(8), true},
		{api.Prefix{}, ten(8), true},
		{api.Prefix{}, api.Prefix{}, true},
		{api.Prefix{}, api.Prefix{Addr: math.MaxUint32, Bits: 32}, true},
		{ten(32), ten(32), true},
		{ten(9), ten(8), false},
		{ten(8), eleven(8), false},
		{ten(8), eleven(9), false},
		{eleven(8), ten(8), false},
		{ten(8), ten(7), false},
		{ten(8), api.Prefix{}, false},
		{ten(32), api.Prefix{Addr: 10<<24 + 1, Bits: 32}, false},
	} {
		if clause.Matches(api.Clause{Prefix: row.p}, row.to, 0) != row.want {
			t.Errorf("%v to %v: not %v", row.p, row.to, row.want)
		}
	}
}

// Any is enough, whatever prefix stands beside it, and whatever the destination.
func TestMatchesAny(t *testing.T) {
	all := append(wrong(), api.Prefix{}, ten(8), ten(9), eleven(8))
	for _, p := range all {
		for _, to := range all {
			if !clause.Matches(api.Clause{Any: true, Prefix: p}, to, 3) {
				t.Errorf("any, %v to %v", p, to)
			}
		}
	}
}

// W1: what may not be a prefix covers nothing, and nothing covers it, not even itself.
func TestMatchesWrongPrefixes(t *testing.T) {
	for _, p := range wrong() {
		for _, to := range append(wrong(), api.Prefix{}, ten(8), ten(32)) {
			if clause.Matches(api.Clause{Prefix: p}, to, 0) || clause.Matches(api.Clause{Prefix: to}, p, 0) {
				t.Errorf("%v, %v", p, to)
			}
		}
	}
}

func TestMatchesByTags(t *testing.T) {
	for _, row := range []struct {
		with, out, tags uint8
		want            bool
	}{
		{0, 0, 0, true},
		{0, 0, 255, true},
		{5, 0, 5, true},
		{5, 0, 7, true},
		{5, 0, 1, false},
		{5, 0, 4, false},
		{5, 0, 2, false},
		{5, 0, 0, false},
		{1, 0, 0, false},
		{0, 6, 0, true},
		{0, 6, 9, true},
		{0, 6, 2, false},
		{0, 6, 4, false},
		{0, 6, 6, false},
		{0, 6, 15, false},
		{1, 2, 1, true},
		{1, 2, 13, true},
		{1, 2, 3, false},
		{1, 2, 2, false},
		{1, 2, 0, false},
		{4, 4, 4, false},
		{4, 4, 0, false},
		{16, 0, 16, true},
		{16, 0, 15, false},
		{128, 64, 128, true},
		{128, 64, 192, false},
	} {
		for _, c := range []api.Clause{{Any: true}, {Prefix: ten(8)}} {
			c.With, c.Out = row.with, row.out
			if clause.Matches(c, ten(9), row.tags) != row.want {
				t.Errorf("with %d, out %d, tags %d: not %v", row.with, row.out, row.tags, row.want)
			}
		}
	}
}

// Tags alone are not enough.
func TestMatchesTagsElsewhere(t *testing.T) {
	if clause.Matches(api.Clause{Prefix: ten(8), With: 1, Out: 2}, eleven(8), 1) {
		t.Error("it works on a route to somewhere else")
	}
}

// What a clause does says nothing about whether it works.
func TestMatchesWhateverItDoes(t *testing.T) {
	for _, c := range []api.Clause{{Drop: true}, {Set: 255}, {Clear: 255}, {More: math.MinInt}, {Pref: math.MaxInt}} {
		c.Any = true
		if !clause.Matches(c, ten(8), 0) || !clause.Matches(c, ten(8), 255) {
			t.Errorf("%v", c)
		}
		c.Any, c.Prefix = false, eleven(8)
		if clause.Matches(c, ten(8), 0) || clause.Matches(c, ten(8), 255) {
			t.Errorf("%v", c)
		}
	}
}

func TestMatchesAllTags(t *testing.T) {
	for with := range 256 {
		for out := range 256 {
			c := api.Clause{Any: true, With: uint8(with), Out: uint8(out)}
			for tags := 0; tags < 256; tags += 5 {
				if clause.Matches(c, ten(8), uint8(tags)) != told(c, ten(8), uint8(tags)) {
					t.Fatalf("%v, tags %d", c, tags)
				}
			}
		}
	}
}

// P11.2: Do.

// The chapter's example.
func TestDoExample(t *testing.T) {
	cs := []api.Clause{{Any: true, With: 1, Set: 4, More: 2}}
	if a := clause.Do(cs, ten(8), route(3)); a != (api.Attr{OK: true, Pref: 100, Cost: 7, Tags: 7}) {
		t.Error(a)
	}
}

func TestDoNone(t *testing.T) {
	for _, a := range []api.Attr{{}, {Pref: 100}, {Cost: 3}, {Tags: 15}, {Pref: math.MaxInt, Cost: math.MinInt, Tags: 255}} {
		for _, cs := range [][]api.Clause{nil, {}, {{Any: true}}, {{Any: true, Set: 5, More: 3, Pref: 7}}, {{Any: true, Drop: true}}, {{Prefix: eleven(8)}}} {
			if b := clause.Do(cs, ten(8), a); b != (api.Attr{}) {
				t.Errorf("%v, %v: %v", cs, a, b)
			}
		}
	}
}

// A route that no clause works on is as it was, with parts that no configuration has, too.
func TestDoNoClause(t *testing.T) {
	for _, a := range []api.Attr{
		{OK: true}, route(0), route(15), route(255),
		{OK: true, Pref: -1, Cost: -1, Tags: 128},
		{OK: true, Pref: math.MinInt, Cost: math.MaxInt, Tags: 240},
		{OK: true, Pref: math.MaxInt, Cost: math.MinInt},
	} {
		never := []api.Clause{{Prefix: eleven(8), Drop: true}, {Any: true, With: 1, Out: 1, Set: 3, More: 3, Pref: 3}, {Prefix: ten(9), Drop: true}, {Prefix: api.Prefix{Bits: 33}, Drop: true}}
		for _, cs := range [][]api.Clause{nil, {}, never} {
			if b := clause.Do(cs, ten(8), a); b != a {
				t.Errorf("%v: %v", a, b)
			}
		}
	}
}

// The first one that works is the one, wherever it stands; those behind it say something else.
func TestDoFirst(t *testing.T) {
	cs := []api.Clause{
		{Prefix: eleven(8), Drop: true},
		{Any: true, With: 1, Pref: 11},
		{Prefix: ten(8), With: 2, Pref: 12},
		{Any: true, Out: 4, Pref: 13},
		{Prefix: ten(8), Drop: true},
		{Any: true, Pref: 15},
	}
	for tags, pref := range []int{13, 11, 12, 11, 0, 11, 12, 11, 13} {
		want := api.Attr{OK: true, Pref: pref, Cost: 5, Tags: uint8(tags)}
		if pref == 0 {
			want = api.Attr{}
		}
		if a := clause.Do(cs, ten(8), route(uint8(tags))); a != want {
			t.Errorf("tags %d: %v, not %v", tags, a, want)
		}
	}
	if a := clause.Do(cs, api.Prefix{Addr: 12 << 24, Bits: 8}, route(4)); a != (api.Attr{OK: true, Pref: 15, Cost: 5, Tags: 4}) {
		t.Error(a)
	}
}

// One clause alone works on a route: what it says is not asked by those behind it.
func TestDoOneAlone(t *testing.T) {
	cs := []api.Clause{{Any: true, Out: 1, Set: 1, More: 1}, {Any: true, With: 1, Set: 2, More: 2, Pref: 9}, {Any: true, Drop: true}}
	if a := clause.Do(cs, ten(8), route(0)); a != (api.Attr{OK: true, Pref: 100, Cost: 6, Tags: 1}) {
		t.Error(a)
	}
}

// A clause that says nothing still is the first one that works; it keeps the lowest four bits alone.
func TestDoNothingSaid(t *testing.T) {
	cs := []api.Clause{{Any: true}, {Any: true, Drop: true}}
	if a := clause.Do(cs, ten(8), route(11)); a != route(11) {
		t.Error(a)
	}
	if a := clause.Do(cs, ten(8), route(0xfb)); a != route(11) {
		t.Error(a)
	}
}

// Drop goes ahead of all else that the clause says.
func TestDoDrop(t *testing.T) {
	for _, c := range []api.Clause{{}, {Set: 1}, {Clear: 1}, {More: 4}, {Pref: 200}, {Set: 15, Clear: 8, More: 15, Pref: 255}} {
		c.Any, c.Drop = true, true
		if a := clause.Do([]api.Clause{c, {Any: true}}, ten(8), route(3)); a != (api.Attr{}) {
			t.Errorf("%v: %v", c, a)
		}
	}
}

func TestDoTags(t *testing.T) {
	for _, row := range []struct{ tags, set, clear, want uint8 }{
		{0, 0, 0, 0},
		{0, 1, 0, 1},
		{1, 1, 0, 1},
		{2, 5, 0, 7},
		{7, 0, 2, 5},
		{5, 0, 2, 5},
		{0, 4, 4, 0},
		{4, 4, 4, 0},
		{3, 12, 5, 10},
		{15, 15, 15, 0},
		{0x10, 0, 0, 0},
		{0xff, 0, 0, 15},
		{0xf3, 4, 1, 6},
		{0, 0xf0, 0, 0},
		{1, 0xf2, 0, 3},
		{15, 0, 0xf0, 15},
		{15, 0, 0xf1, 14},
		{0xff, 0xff, 0xf0, 15},
	} {
		cs := []api.Clause{{Any: true, Set: row.set, Clear: row.clear}}
		if a := clause.Do(cs, ten(8), route(row.tags)); a != route(row.want) {
			t.Errorf("%v: %v", row, a)
		}
	}
}

// Bits above the lowest four are asked, though none of them is left.
func TestDoAsksHighTags(t *testing.T) {
	cs := []api.Clause{{Any: true, With: 16, Pref: 1}, {Any: true, Out: 32, Pref: 2}}
	for tags, pref := range map[uint8]int{0x10: 1, 0x30: 1, 0x01: 2, 0x0f: 2} {
		if a := clause.Do(cs, ten(8), route(tags)); a != (api.Attr{OK: true, Pref: pref, Cost: 5, Tags: tags & 15}) {
			t.Errorf("tags %d: %v", tags, a)
		}
	}
	if a := clause.Do(cs, ten(8), route(0x21)); a != route(0x21) {
		t.Error(a)
	}
}

func TestDoMore(t *testing.T) {
	for more, want := range map[int]int{math.MinInt: 5, -16: 5, -1: 5, 0: 5, 1: 6, 2: 7, 14: 19, 15: 20, 16: 20, 17: 20, 1000: 20, 1 << 32: 20, math.MaxInt: 20} {
		if a := clause.Do([]api.Clause{{Any: true, More: more}}, ten(8), route(1)); a != (api.Attr{OK: true, Pref: 100, Cost: want, Tags: 1}) {
			t.Errorf("more %d: %v", more, a)
		}
	}
}

func TestDoPref(t *testing.T) {
	for pref, want := range map[int]int{math.MinInt: 100, -1: 100, 0: 100, 1: 1, 2: 2, 99: 99, 100: 100, 254: 254, 255: 255, 256: 100, 257: 100, 1 << 32: 100, 1<<32 + 7: 100, math.MaxInt: 100} {
		if a := clause.Do([]api.Clause{{Any: true, Pref: pref}}, ten(8), route(1)); a != (api.Attr{OK: true, Pref: want, Cost: 5, Tags: 1}) {
			t.Errorf("pref %d: %v", pref, a)
		}
	}
}

// Parts that no configuration has are changed as others are: the cost is not held within limits, nor how the route is liked.
func TestDoOddRoutes(t *testing.T) {
	c := api.Clause{Any: true, Set: 1, More: 3}
	for _, row := range [][2]api.Attr{
		{{OK: true}, {OK: true, Cost: 3, Tags: 1}},
		{{OK: true, Pref: -7, Cost: -2, Tags: 0xf0}, {OK: true, Pref: -7, Cost: 1, Tags: 1}},
		{{OK: true, Pref: 256, Cost: 1000}, {OK: true, Pref: 256, Cost: 1003, Tags: 1}},
		{{OK: true, Pref: math.MaxInt, Cost: math.MinInt}, {OK: true, Pref: math.MaxInt, Cost: math.MinInt + 3, Tags: 1}},
		{{OK: true, Pref: math.MinInt, Cost: math.MaxInt - 3}, {OK: true, Pref: math.MinInt, Cost: math.MaxInt, Tags: 1}},
	} {
		if a := clause.Do([]api.Clause{c}, ten(8), row[0]); a != row[1] {
			t.Errorf("%v: %v", row[0], a)
		}
	}
}

// P11.3: For.

func TestForInOrder(t *testing.T) {
	cs := []api.Clause{
		{Prefix: ten(8), With: 1, Set: 2},
		{Prefix: eleven(8), With: 1, Set: 3},
		{Any: true, Prefix: eleven(8), Out: 2, Set: 4},
		{Prefix: ten(9), With: 1, Set: 5},
		{Prefix: api.Prefix{}, With: 4, Out: 8, Set: 6},
		{Prefix: api.Prefix{Bits: 33}, With: 4, Set: 7},
		{Any: true, With: 1, Set: 8},
	}
	want := []api.Clause{
		{Any: true, With: 1, Set: 2},
		{Any: true, Out: 2, Set: 4},
		{Any: true, With: 4, Out: 8, Set: 6},
		{Any: true, With: 1, Set: 8},
	}
	if f := clause.For(cs, ten(8)); !slices.Equal(f, want) {
		t.Error(f)
	}
}

// All parts but two stay, whatever they are.
func TestForKeepsParts(t *testing.T) {
	for _, c := range []api.Clause{
		{With: 1}, {Out: 1}, {Drop: true}, {Set: 15, Clear: 9}, {More: 15, Pref: 255}, {},
		{With: 255, Out: 255, Drop: true, Set: 255, Clear: 255, More: math.MinInt, Pref: math.MaxInt},
		{With: 240, Out: 16, Set: 240, Clear: 16, More: 16, Pref: -1},
	} {
		want := c
		want.Any = true
		c.Prefix = ten(8)
		if f := clause.For([]api.Clause{c}, ten(16)); !slices.Equal(f, []api.Clause{want}) {
			t.Errorf("%v: %v", c, f)
		}
		for _, p := range append(wrong(), eleven(8), ten(8)) {
			c.Any, c.Prefix = true, p
			if f := clause.For([]api.Clause{c}, ten(16)); !slices.Equal(f, []api.Clause{want}) {
				t.Errorf("%v: %v", c, f)
			}
		}
	}
}

// One that works on all routes to the destination is the last one, whether it is Any or covers, and whatever it does.
func TestForUpToTheFirst(t *testing.T) {
	for _, c := range []api.Clause{{Any: true}, {Prefix: ten(8)}, {Any: true, Drop: true}, {Prefix: ten(7), Set: 1, More: 2, Pref: 3}, {Any: true, Prefix: eleven(8), Clear: 1}} {
		cs := []api.Clause{{Any: true, With: 1}, c, {Any: true, Out: 2}, {Any: true, Drop: true}, {Any: true, With: 3}}
		last := c
		last.Any, last.Prefix = true, api.Prefix{}
		if f := clause.For(cs, ten(8)); !slices.Equal(f, []api.Clause{{Any: true, With: 1}, last}) {
			t.Errorf("%v: %v", c, f)
		}
		if f := clause.For(cs[1:], ten(8)); !slices.Equal(f, []api.Clause{last}) {
			t.Errorf("%v: %v", c, f)
		}
		if f := clause.For(cs[:2], ten(8)); !slices.Equal(f, []api.Clause{{Any: true, With: 1}, last}) {
			t.Errorf("%v: %v", c, f)
		}
	}
}

// With alone or Out alone is enough for those behind to be told, and so are bits that no route keeps.
func TestForGoesOn(t *testing.T) {
	for _, c := range []api.Clause{{With: 1}, {Out: 1}, {With: 8}, {Out: 8}, {With: 128}, {Out: 128}, {With: 1, Out: 1}} {
		c.Any = true
		want := []api.Clause{c, {Any: true, Pref: 7}}
		if f := clause.For(append(slices.Clone(want), api.Clause{Any: true, Pref: 8}), ten(8)); !slices.Equal(f, want) {
			t.Errorf("%v: %v", c, f)
		}
	}
}

// One that has neither, but leads elsewhere, ends nothing.
func TestForElsewhereEndsNothing(t *testing.T) {
	cs := []api.Clause{{Prefix: eleven(8)}, {Prefix: ten(9), Drop: true}, {Prefix: api.Prefix{Bits: 40}}, {Any: true, With: 1}}
	if f := clause.For(cs, ten(8)); !slices.Equal(f, cs[3:]) {
		t.Error(f)
	}
}

func TestForNone(t *testing.T) {
	never := []api.Clause{{Prefix: eleven(8)}, {Prefix: ten(9), With: 1}, {Prefix: api.Prefix{Bits: -1}, Drop: true}}
	for _, cs := range [][]api.Clause{nil, {}, never} {
		if f := clause.For(cs, ten(8)); len(f) != 0 {
			t.Error(f)
		}
	}
	for _, to := range wrong() {
		if f := clause.For([]api.Clause{{Prefix: ten(8)}, {}, {Prefix: to}}, to); len(f) != 0 {
			t.Errorf("%v: %v", to, f)
		}
		if f := clause.For([]api.Clause{{}, {Any: true, Prefix: to, Pref: 3}}, to); !slices.Equal(f, []api.Clause{{Any: true, Pref: 3}}) {
			t.Errorf("%v: %v", to, f)
		}
	}
}

// There is no most: a list longer than any map's is gone through to its end.
func TestForMany(t *testing.T) {
	cs := slices.Repeat([]api.Clause{{Any: true, With: 1, Pref: 4}}, 10*api.MaxClauses)
	cs = append(cs, api.Clause{Any: true, Drop: true})
	if f := clause.For(cs, ten(8)); !slices.Equal(f, cs) {
		t.Error(len(f))
	}
	if a := clause.Do(cs, ten(8), route(2)); a != (api.Attr{}) {
		t.Error(a)
	}
}

// W6: what is done to an answer is seen neither in what was handed over nor in another answer.
func TestForIsNewMemory(t *testing.T) {
	cs := []api.Clause{{Any: true, With: 1, Set: 1}, {Any: true, Out: 2, Set: 2}, {Any: true, Pref: 3}}
	kept := slices.Clone(cs)
	first := clause.For(cs, ten(8))
	second := clause.For(cs, ten(8))
	for i := range first {
		first[i] = api.Clause{Prefix: eleven(8), Drop: true}
	}
	first = append(first[:1], api.Clause{Pref: 99})
	if !slices.Equal(cs, kept) || !slices.Equal(second, kept) || !slices.Equal(clause.For(cs, ten(8)), kept) {
		t.Error(cs, second, first)
	}
	for i := range cs {
		cs[i] = api.Clause{}
	}
	if !slices.Equal(second, kept) {
		t.Error(second)
	}
}

// W6: nor is what lies behind a list's end touched by an answer of a part of it.
func TestForBehindTheEnd(t *testing.T) {
	cs := []api.Clause{{Any: true, With: 1}, {Prefix: ten(8), With: 2}, {Prefix: ten(8), Pref: 3}}
	kept := slices.Clone(cs)
	f := append(clause.For(cs[:1], ten(8)), api.Clause{Drop: true})
	if !slices.Equal(cs, kept) || len(f) != 2 {
		t.Error(cs, f)
	}
}

// All three.

// some is clauses and destinations by chance, of few values, so that they often meet.
func some(r *rand.Rand) ([]api.Clause, api.Prefix) {
	ps := append(wrong(), api.Prefix{}, api.Prefix{}, ten(8), ten(8), ten(8), ten(8), ten(7), ten(7), ten(9), eleven(8), eleven(8), ten(32))
	cs := make([]api.Clause, r.Intn(7))
	for i := range cs {
		cs[i] = api.Clause{
			Any: r.Intn(3) == 0, Prefix: ps[r.Intn(len(ps))],
			With: uint8(r.Intn(256) & r.Intn(256) & r.Intn(256)), Out: uint8(r.Intn(256) & r.Intn(256) & r.Intn(256)),
			Drop: r.Intn(5) == 0, Set: uint8(r.Intn(256)), Clear: uint8(r.Intn(256)),
			More: r.Intn(25) - 5, Pref: r.Intn(300) - 20,
		}
		if r.Intn(3) == 0 {
			cs[i].With, cs[i].Out = 0, 0
		}
	}
	return cs, ps[r.Intn(len(ps))]
}

func TestByChance(t *testing.T) {
	r := rand.New(rand.NewSource(11))
	for range 50000 {
		cs, to := some(r)
		kept := slices.Clone(cs)
		a := api.Attr{OK: r.Intn(8) > 0, Pref: r.Intn(300), Cost: r.Intn(100), Tags: uint8(r.Intn(256))}
		for _, c := range cs {
			if clause.Matches(c, to, a.Tags) != told(c, to, a.Tags) {
				t.Fatalf("%v to %v, tags %d", c, to, a.Tags)
			}
		}
		if b := clause.Do(cs, to, a); b != done(cs, to, a) {
			t.Fatalf("%v to %v: %v, not %v", cs, to, b, done(cs, to, a))
		}
		f := clause.For(cs, to)
		if !slices.Equal(f, left(cs, to)) {
			t.Fatalf("%v to %v: %v", cs, to, f)
		}
		if clause.Do(f, api.Prefix{Bits: -1}, a) != clause.Do(cs, to, a) {
			t.Fatalf("%v to %v: other routes behind %v", cs, to, f)
		}
		if !slices.Equal(cs, kept) {
			t.Fatalf("%v were changed", kept)
		}
	}
}

// W2: many at once answer as one alone, of the same lists.
func TestAtOnce(t *testing.T) {
	r := rand.New(rand.NewSource(12))
	cs, to := some(r)
	for len(left(cs, to)) < 2 {
		cs, to = some(r)
	}
	var all sync.WaitGroup
	for n := range 16 {
		all.Go(func() {
			for tags := range 256 {
				a := api.Attr{OK: true, Pref: n, Cost: tags, Tags: uint8(tags)}
				if clause.Do(cs, to, a) != done(cs, to, a) {
					t.Errorf("%v", a)
				}
				f := clause.For(cs, to)
				if !slices.Equal(f, left(cs, to)) {
					t.Errorf("%v", f)
				}
				f[0] = api.Clause{More: n}
			}
		})
	}
	all.Wait()
}
