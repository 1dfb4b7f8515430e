package check_test

import (
	"errors"
	"math/rand"
	"slices"
	"testing"

	"maquette/api"
	"maquette/check"
)

// The errors of configurations, told in another way than the program does: all of them, wherever they are, each with a rank; the one of the least rank is told.
type fault struct {
	rank []int
	err  error
}

// ahead tells whether one of the things ahead of the k-th is the same.
func ahead[T any](all []T, k int, same func(a, b T) bool) bool {
	return slices.ContainsFunc(all[:k], func(one T) bool { return same(one, all[k]) })
}

func linked(r api.Router, name string) bool {
	return slices.ContainsFunc(r.Links, func(l api.Link) bool { return l.Peer == name })
}

func faults(c api.Config) []fault {
	var all []fault
	add := func(is bool, no api.Errno, at int, rank ...int) {
		if is {
			all = append(all, fault{rank, api.Wrap(no, at)})
		}
	}
	for i, m := range c.Maps {
		add(ahead(c.Maps, i, func(a, b api.Map) bool { return a.Name == b.Name }), api.ErrTwice, m.At, 0, i)
	}
	noMap := func(name string) bool {
		return name != "" && !slices.ContainsFunc(c.Maps, func(m api.Map) bool { return m.Name == name })
	}
	router := func(name string) int {
		return slices.IndexFunc(c.Routers, func(r api.Router) bool { return r.Name == name })
	}
	for i, r := range c.Routers {
		add(ahead(c.Routers, i, func(a, b api.Router) bool { return a.Name == b.Name }), api.ErrTwice, r.At, 1, i)
		for k := range r.Nets {
			add(slices.Contains(r.Nets[:k], r.Nets[k]), api.ErrTwice, r.At, 2, i, 0)
		}
		for k, l := range r.Links {
			peer := router(l.Peer)
			add(peer < 0 || l.Peer == r.Name, api.ErrName, l.At, 2, i, 1, k, 0)
			add(noMap(l.Import) || noMap(l.Export), api.ErrName, l.At, 2, i, 1, k, 0)
			add(ahead(r.Links, k, func(a, b api.Link) bool { return a.Peer == b.Peer }), api.ErrTwice, l.At, 2, i, 1, k, 1)
			add(peer >= 0 && !linked(c.Routers[max(peer, 0)], r.Name), api.ErrLink, l.At, 2, i, 1, k, 2)
		}
		for k, s := range r.Statics {
			add(!linked(r, s.Via), api.ErrName, s.At, 2, i, 2, k, 0)
			add(ahead(r.Statics, k, func(a, b api.Static) bool { return a.Prefix == b.Prefix }), api.ErrTwice, s.At, 2, i, 2, k, 1)
		}
	}
	slices.SortFunc(all, func(a, b fault) int { return slices.Compare(a.rank, b.rank) })
	return all
}

func one[T any](r *rand.Rand, of []T) T { return of[r.Intn(len(of))] }

var (
	names    = []string{"a", "b", "c", "d", "e", "f"}
	mapNames = []string{"m", "n", ""}
	prefixes = []api.Prefix{{}, {Addr: 10 << 24, Bits: 8}, {Addr: 10 << 24, Bits: 16}, {Addr: 11 << 24, Bits: 8}, {Bits: 8}}
)

// anyRight is a configuration that is right.
func anyRight(r *rand.Rand) api.Config {
	c := api.Config{Maps: []api.Map{{Name: "m"}, {Name: "n"}}}
	for _, n := range names[:r.Intn(len(names)+1)] {
		o := api.Router{Name: n, Nets: slices.Clone(prefixes[:r.Intn(4)])}
		c.Routers = append(c.Routers, o)
	}
	for i := range c.Routers {
		for k := range i {
			if r.Intn(2) > 0 {
				continue
			}
			for _, two := range [][2]int{{i, k}, {k, i}} {
				from, to := &c.Routers[two[0]], c.Routers[two[1]].Name
				from.Links = append(from.Links, api.Link{Peer: to, Import: one(r, mapNames), Export: one(r, mapNames)})
			}
		}
	}
	for i := range c.Routers {
		o := &c.Routers[i]
		for _, p := range prefixes[:r.Intn(4)] {
			if len(o.Links) > 0 {
				o.Statics = append(o.Statics, api.Static{Prefix: p, Via: one(r, o.Links).Peer})
			}
		}
	}
	return c
}

// again puts one of the things in once more, somewhere.
func again[T any](r *rand.Rand, all []T) []T {
	if len(all) == 0 {
		return all
	}
	return slices.Insert(slices.Clone(all), r.Intn(len(all)+1), one(r, all))
}

// breakOne makes something of a configuration wrong, most of the time.
func breakOne(r *rand.Rand, c *api.Config) {
	if r.Intn(12) == 0 {
		c.Maps = again(r, c.Maps)
		return
	}
	if len(c.Routers) == 0 {
		return
	}
	o := &c.Routers[r.Intn(len(c.Routers))]
	switch r.Intn(11) {
	case 0:
		c.Routers = again(r, c.Routers)
	case 1:
		o.Nets = again(r, o.Nets)
	case 2:
		o.Statics = again(r, o.Statics)
	case 3:
		if len(o.Statics) > 0 {
			o.Statics[r.Intn(len(o.Statics))].Via = one(r, append(names, "x", "m"))
		}
	case 4:
		o.Statics = append(o.Statics, api.Static{Via: one(r, names)})
	default:
		breakLink(r, o)
	}
}

// breakLink makes a link of a router wrong, most of the time.
func breakLink(r *rand.Rand, o *api.Router) {
	if len(o.Links) == 0 {
		return
	}
	k := r.Intn(len(o.Links))
	switch r.Intn(6) {
	case 0:
		o.Links[k].Peer = one(r, append(names, "x", "m"))
	case 1:
		o.Links[k].Import = one(r, []string{"x", "a", "m"})
	case 2:
		o.Links[k].Export = one(r, []string{"x", "a", "m"})
	case 3:
		o.Links = slices.Delete(slices.Clone(o.Links), k, k+1)
	default:
		o.Links = again(r, o.Links)
	}
}

// place gives each thing that has a place one of its own, in no order.
func place(r *rand.Rand, c *api.Config) {
	var ats []*int
	c.Maps, c.Routers = slices.Clone(c.Maps), slices.Clone(c.Routers)
	for i := range c.Maps {
		ats = append(ats, &c.Maps[i].At)
	}
	for i := range c.Routers {
		o := &c.Routers[i]
		o.Links, o.Statics = slices.Clone(o.Links), slices.Clone(o.Statics)
		ats = append(ats, &o.At)
		for k := range o.Links {
			ats = append(ats, &o.Links[k].At)
		}
		for k := range o.Statics {
			ats = append(ats, &o.Statics[k].At)
		}
	}
	for k, n := range r.Perm(len(ats)) {
		*ats[k] = n
	}
}

// kindOf is of which kind an error is: by its rank, without how many things are ahead of it.
func kindOf(f fault) [3]int {
	kind := [3]int{f.rank[0]}
	if len(f.rank) > 2 {
		kind[1] = f.rank[2]
	}
	if len(f.rank) > 4 {
		kind[2] = f.rank[4]
	}
	return kind
}

// P9.2: what is told is the error of the least rank; each kind of them is told many times.
func TestFirstOfAllFaults(t *testing.T) {
	r := rand.New(rand.NewSource(9))
	kinds := map[[3]int]int{}
	right := 0
	for range 40000 {
		c := anyRight(r)
		if err := check.Config(c); err != nil {
			t.Fatal(told(c), err)
		}
		for range 1 + r.Intn(6) {
			breakOne(r, &c)
		}
		place(r, &c)
		var want error
		if all := faults(c); len(all) > 0 {
			want = all[0].err
			kinds[kindOf(all[0])]++
		} else {
			right++
		}
		if err := check.Config(c); !errors.Is(err, want) {
			t.Fatalf("%s: %v; want %v", told(c), err, want)
		}
	}
	if len(kinds) != 8 || right < 1000 {
		t.Error(kinds, right)
	}
	for kind, many := range kinds {
		if many < 300 {
			t.Error(kind, many)
		}
	}
}

// P9.1: Peer is the first of all links to that one.
func TestPeerOfAny(t *testing.T) {
	r := rand.New(rand.NewSource(90))
	for range 3000 {
		c := anyRight(r)
		for range r.Intn(6) {
			breakOne(r, &c)
		}
		place(r, &c)
		for _, o := range c.Routers {
			for _, name := range append(names, "x", "m", "") {
				i := slices.IndexFunc(o.Links, func(l api.Link) bool { return l.Peer == name })
				l, ok := check.Peer(o, name)
				if ok != (i >= 0) || ok && l != o.Links[i] || !ok && l != (api.Link{}) {
					t.Fatal(o, name, l, ok)
				}
			}
		}
	}
}
