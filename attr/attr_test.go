package attr_test

import (
	"math"
	"math/rand"
	"slices"
	"sync"
	"testing"

	"maquette/api"
	"maquette/attr"
)

// none is routes that are not OK, with parts that would be better than those of any that is.
func none() []api.Attr {
	return []api.Attr{
		{},
		{Pref: math.MaxInt},
		{Cost: math.MinInt},
		{Tags: 255},
		{Pref: math.MaxInt, Cost: math.MinInt},
		{Pref: 999, Cost: -1, Tags: 3},
		{Pref: math.MinInt, Cost: math.MaxInt, Tags: 255},
	}
}

// ranked is routes that are OK, the best one first: the first part changes least. Numbers that no configuration has are there, too: differences of the outermost ones have no room in an int.
func ranked() []api.Attr {
	var all []api.Attr
	for _, pref := range []int{math.MaxInt, 1000, 255, 200, 101, 100, 99, 2, 1, 0, -1, math.MinInt} {
		for _, cost := range []int{math.MinInt, -1, 0, 1, 2, 9, 10, 1000, math.MaxInt} {
			for _, tags := range []uint8{0, 1, 2, 3, 4, 7, 8, 15, 16, 127, 128, 255} {
				all = append(all, api.Attr{OK: true, Pref: pref, Cost: cost, Tags: tags})
			}
		}
	}
	return all
}

// P10.1: Origin.

func TestOrigin(t *testing.T) {
	if o := attr.Origin(); !o.OK || o.Pref != 100 || o.Cost != 0 || o.Tags != 0 {
		t.Error(o)
	}
}

// W2: what was asked ahead is not seen, nor what was done to an answer.
func TestOriginAgain(t *testing.T) {
	o := attr.Origin()
	o.Pref, o.Cost, o.Tags, o.OK = 7, 8, 9, false
	if attr.Origin() != (api.Attr{OK: true, Pref: 100}) {
		t.Error(attr.Origin())
	}
}

// P10.1: Better.

// The chapter's example.
func TestBetterExample(t *testing.T) {
	liked := api.Attr{OK: true, Pref: 200, Cost: 9}
	cheap := api.Attr{OK: true, Pref: 100, Cost: 1}
	if !attr.Better(liked, cheap) || attr.Better(cheap, liked) {
		t.Error("more Pref goes ahead of less Cost")
	}
}

// Each row's first one is better, and so the second one is not.
func TestBetterByOnePart(t *testing.T) {
	for _, row := range [][2]api.Attr{
		{{OK: true}, {}},
		{{OK: true, Pref: 101}, {OK: true, Pref: 100}},
		{{OK: true, Pref: 1}, {OK: true}},
		{{OK: true, Pref: 100, Cost: 1}, {OK: true, Pref: 100, Cost: 2}},
		{{OK: true, Pref: 100}, {OK: true, Pref: 100, Cost: 1}},
		{{OK: true, Pref: 100, Cost: 5, Tags: 2}, {OK: true, Pref: 100, Cost: 5, Tags: 3}},
		{{OK: true, Pref: 100, Cost: 5}, {OK: true, Pref: 100, Cost: 5, Tags: 1}},
	} {
		if !attr.Better(row[0], row[1]) {
			t.Errorf("%v is not better than %v", row[0], row[1])
		}
		if attr.Better(row[1], row[0]) {
			t.Errorf("%v is better than %v", row[1], row[0])
		}
	}
}

// A part that stands ahead says it, whatever those behind it say.
func TestBetterByRank(t *testing.T) {
	for _, row := range [][2]api.Attr{
		{{OK: true, Pref: 101, Cost: 1000, Tags: 15}, {OK: true, Pref: 100}},
		{{OK: true, Pref: 101, Cost: 5, Tags: 15}, {OK: true, Pref: 100, Cost: 5}},
		{{OK: true, Pref: 101, Cost: 1000}, {OK: true, Pref: 100, Tags: 15}},
		{{OK: true, Pref: 100, Cost: 1, Tags: 15}, {OK: true, Pref: 100, Cost: 2}},
		{{OK: true, Pref: math.MinInt, Cost: math.MaxInt, Tags: 255}, {Pref: math.MaxInt, Cost: math.MinInt}},
	} {
		if !attr.Better(row[0], row[1]) || attr.Better(row[1], row[0]) {
			t.Errorf("%v, %v", row[0], row[1])
		}
	}
}

// Tags are a number: one bit that is high is more than several that are low.
func TestBetterByTagsAsNumber(t *testing.T) {
	for a := range 256 {
		for b := range 256 {
			one, other := api.Attr{OK: true, Pref: 100, Tags: uint8(a)}, api.Attr{OK: true, Pref: 100, Tags: uint8(b)}
			if attr.Better(one, other) != (a < b) {
				t.Errorf("tags %d, %d", a, b)
			}
		}
	}
}

func TestBetterRanked(t *testing.T) {
	all := ranked()
	for i, a := range all {
		for k, b := range all {
			if attr.Better(a, b) != (i < k) {
				t.Fatalf("%v, %v", a, b)
			}
		}
	}
}

func TestBetterOfNone(t *testing.T) {
	for _, a := range none() {
		for _, b := range none() {
			if attr.Better(a, b) {
				t.Errorf("none is better: %v, %v", a, b)
			}
		}
		for _, b := range ranked() {
			if attr.Better(a, b) || !attr.Better(b, a) {
				t.Fatalf("%v, %v", a, b)
			}
		}
	}
}

func TestBetterThanItself(t *testing.T) {
	for _, a := range append(ranked(), none()...) {
		if attr.Better(a, a) {
			t.Errorf("%v is better than itself", a)
		}
	}
}

// P10.1: Best.

func TestBestOfNone(t *testing.T) {
	if attr.Best() != (api.Attr{}) || attr.Best(nil...) != (api.Attr{}) || attr.Best([]api.Attr{}...) != (api.Attr{}) {
		t.Error("the best of no routes is not zero")
	}
}

func TestBestOfOne(t *testing.T) {
	for _, a := range ranked() {
		if attr.Best(a) != a {
			t.Errorf("%v: %v", a, attr.Best(a))
		}
	}
}

// What is told is zero, and not a route that is not OK.
func TestBestNoneOK(t *testing.T) {
	for _, a := range none() {
		if attr.Best(a) != (api.Attr{}) {
			t.Errorf("%v: %v", a, attr.Best(a))
		}
		for _, b := range none() {
			if attr.Best(a, b) != (api.Attr{}) {
				t.Errorf("%v, %v: %v", a, b, attr.Best(a, b))
			}
		}
	}
	if attr.Best(none()...) != (api.Attr{}) {
		t.Error("all of them")
	}
}

// One that is OK is told, wherever it stands among those that are not.
func TestBestOneOK(t *testing.T) {
	worst := api.Attr{OK: true, Pref: math.MinInt, Cost: math.MaxInt, Tags: 255}
	for at := range len(none()) + 1 {
		if as := slices.Insert(none(), at, worst); attr.Best(as...) != worst {
			t.Errorf("at %d: %v", at, attr.Best(as...))
		}
	}
}

// The best one stands first, in the middle, last.
func TestBestWhereverItStands(t *testing.T) {
	rest := []api.Attr{
		{OK: true, Pref: 100, Cost: 1},
		{OK: true, Pref: 199, Tags: 1},
		{Pref: 999},
		{OK: true, Pref: 200, Cost: 9, Tags: 1},
		{OK: true, Pref: 200, Cost: 10},
	}
	best := api.Attr{OK: true, Pref: 200, Cost: 9}
	for at := range len(rest) + 1 {
		if as := slices.Insert(slices.Clone(rest), at, best); attr.Best(as...) != best {
			t.Errorf("at %d: %v", at, attr.Best(as...))
		}
	}
}

// Routes of which neither is better have the same parts, if they are OK: the first one of them can't be told from the others.
func TestBestOfEqualOnes(t *testing.T) {
	a, b := api.Attr{OK: true, Pref: 100, Cost: 3, Tags: 2}, api.Attr{OK: true, Pref: 100, Cost: 4}
	for _, as := range [][]api.Attr{{a, a}, {a, a, a}, {b, a, a}, {a, b, a}, {a, a, b}, {a, b, b, a, b}, {{}, a, {Pref: 9}, a}} {
		if attr.Best(as...) != a {
			t.Errorf("%v: %v", as, attr.Best(as...))
		}
	}
}

// W6: a list that is handed in is not changed, not even behind its end.
func TestBestChangesNothing(t *testing.T) {
	room := []api.Attr{{OK: true, Cost: 9}, {Pref: 5}, {OK: true, Cost: 3}, {OK: true, Cost: 1}}
	kept := slices.Clone(room)
	if got := attr.Best(room[:3]...); got != room[2] {
		t.Error(got)
	}
	if !slices.Equal(room, kept) {
		t.Error(room)
	}
}

func TestBestOfMany(t *testing.T) {
	all := ranked()
	best := all[0]
	slices.Reverse(all)
	many := slices.Repeat(all, 100)
	if attr.Best(many...) != best || attr.Best(many[:len(many)-1]...) != best {
		t.Error("the best of many")
	}
}

// P10.1: Same.

// Only routes that are OK are held against each other by their parts.
func TestSame(t *testing.T) {
	all := ranked()
	for i, a := range all {
		for k, b := range all {
			if attr.Same(a, b) != (i == k) {
				t.Fatalf("%v, %v", a, b)
			}
		}
	}
	for _, a := range none() {
		for _, b := range none() {
			if !attr.Same(a, b) {
				t.Errorf("two that are not OK: %v, %v", a, b)
			}
		}
		for _, b := range all {
			if attr.Same(a, b) || attr.Same(b, a) {
				t.Fatalf("%v, %v", a, b)
			}
		}
	}
}

// One part alone makes two routes differ, OK among them.
func TestSameByOnePart(t *testing.T) {
	a := api.Attr{OK: true, Pref: 100, Cost: 5, Tags: 3}
	for _, b := range []api.Attr{
		{Pref: 100, Cost: 5, Tags: 3},
		{OK: true, Pref: 101, Cost: 5, Tags: 3},
		{OK: true, Pref: 100, Cost: 6, Tags: 3},
		{OK: true, Pref: 100, Cost: 5, Tags: 2},
	} {
		if attr.Same(a, b) || attr.Same(b, a) {
			t.Errorf("%v, %v", a, b)
		}
	}
	if same := a; !attr.Same(a, same) {
		t.Error("a route and itself")
	}
}

// All of them together.

// anyRoute has few numbers, so that parts are often the same.
func anyRoute(r *rand.Rand) api.Attr {
	return api.Attr{OK: r.Intn(4) > 0, Pref: 99 + r.Intn(3), Cost: r.Intn(3), Tags: uint8(r.Intn(3))}
}

// firstBest is what the promise says of Best, word by word.
func firstBest(as []api.Attr) api.Attr {
	if !slices.ContainsFunc(as, func(a api.Attr) bool { return a.OK }) {
		return api.Attr{}
	}
	for _, a := range as {
		if !slices.ContainsFunc(as, func(b api.Attr) bool { return attr.Better(b, a) }) {
			return a
		}
	}
	return api.Attr{}
}

func TestBestOfAny(t *testing.T) {
	r := rand.New(rand.NewSource(10))
	for range 5000 {
		as := make([]api.Attr, r.Intn(7))
		for i := range as {
			as[i] = anyRoute(r)
		}
		if want := firstBest(as); attr.Best(as...) != want {
			t.Fatalf("%v: %v, not %v", as, attr.Best(as...), want)
		}
	}
}

// Of two routes just one holds: the one is better, or the other, or they are the same.
func TestBetterOrSame(t *testing.T) {
	r := rand.New(rand.NewSource(11))
	for range 5000 {
		a, b := anyRoute(r), anyRoute(r)
		n := 0
		for _, holds := range []bool{attr.Better(a, b), attr.Better(b, a), attr.Same(a, b)} {
			if holds {
				n++
			}
		}
		if n != 1 || attr.Same(a, b) != attr.Same(b, a) {
			t.Fatalf("%v, %v", a, b)
		}
	}
}

// W2: many at once.
func TestManyAtOnce(t *testing.T) {
	all := append(none(), ranked()...)
	var group sync.WaitGroup
	for range 8 {
		group.Go(func() {
			if attr.Best(all...) != all[len(none())] || attr.Origin().Pref != 100 {
				t.Error("at once")
			}
		})
	}
	group.Wait()
}
