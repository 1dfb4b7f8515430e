package check_test

import (
	"errors"
	"fmt"
	"math"
	"strconv"
	"strings"
	"sync"
	"testing"
	"unsafe"

	"maquette/api"
	"maquette/check"
	"maquette/parse"
)

// read is a text's configuration, and the place that @ marks in the text; -1, if it marks none.
func read(t *testing.T, marked string) (api.Config, int) {
	t.Helper()
	c, err := parse.Config(strings.Replace(marked, "@", "", 1))
	if err != nil {
		t.Fatalf("%s: %v", marked, err)
	}
	return c, strings.Index(marked, "@")
}

func wantRight(t *testing.T, s string) {
	t.Helper()
	c, _ := read(t, s)
	if err := check.Config(c); err != nil {
		t.Errorf("%s: %v", s, err)
	}
}

// wantAt holds what is told of a text's configuration against an error at the place that @ marks.
func wantAt(t *testing.T, marked string, no api.Errno) {
	t.Helper()
	c, at := read(t, marked)
	if at < 0 {
		t.Fatalf("%s: no place", marked)
	}
	wantFault(t, c, no, at)
}

func wantFault(t *testing.T, c api.Config, no api.Errno, at int) {
	t.Helper()
	err := check.Config(c)
	if !errors.Is(err, no) || api.Number(err) != no || api.Place(err) != at {
		t.Errorf("%v; want %v at %d", err, no, at)
	}
}

// told is all that a configuration has.
func told(c api.Config) string { return fmt.Sprintf("%#v", c) }

// P9.1: Peer.

func TestPeer(t *testing.T) {
	b := api.Link{Peer: "b", Cost: 7, Import: "in", Export: "out", At: 3}
	c := api.Link{Peer: "c", Cost: 1, At: 4}
	other := api.Link{Peer: "b", Cost: 8, Import: "x", Export: "y", At: 5}
	long := api.Link{Peer: "bb", Cost: 9, At: 6}
	r := api.Router{Name: "a", Links: []api.Link{long, b, c, other}, Statics: []api.Static{{Via: "d"}}}
	for name, want := range map[string]api.Link{"b": b, "c": c, "bb": long} {
		if l, ok := check.Peer(r, name); !ok || l != want {
			t.Errorf("%q: %v, %v", name, l, ok)
		}
	}
	for _, name := range []string{"", "a", "d", "B", "b ", "bbb", "in", "\xff", strings.Repeat("b", 1000)} {
		if l, ok := check.Peer(r, name); ok || l != (api.Link{}) {
			t.Errorf("%q: %v, %v", name, l, ok)
		}
	}
}

// The first link is told, wherever the other ones stand.
func TestPeerTwice(t *testing.T) {
	for first := range 5 {
		var r api.Router
		for k := range 5 {
			l := api.Link{Peer: "x" + strconv.Itoa(k), At: k}
			if k >= first {
				l.Peer = "b"
			}
			r.Links = append(r.Links, l)
		}
		if l, ok := check.Peer(r, "b"); !ok || l.At != first {
			t.Error(first, l, ok)
		}
	}
}

func TestPeerOfWrongThings(t *testing.T) {
	for _, r := range []api.Router{{}, {Name: "b"}, {Name: "b", Links: []api.Link{}}, {Name: "b", Statics: []api.Static{{Via: "b"}}}} {
		for _, name := range []string{"", "b"} {
			if l, ok := check.Peer(r, name); ok || l != (api.Link{}) {
				t.Errorf("%v, %q: %v, %v", r, name, l, ok)
			}
		}
	}
	// A link of zeros is one, and one to the router itself, too.
	if l, ok := check.Peer(api.Router{Name: "a", Links: make([]api.Link, 1)}, ""); !ok || l != (api.Link{}) {
		t.Error(l, ok)
	}
	self := api.Link{Peer: "a", Cost: -5, At: math.MinInt}
	if l, ok := check.Peer(api.Router{Name: "a", Links: []api.Link{self}}, "a"); !ok || l != self {
		t.Error(l, ok)
	}
}

// P9.2: Config, of what is right.

func TestNothing(t *testing.T) {
	for _, c := range []api.Config{{}, {Maps: []api.Map{}, Routers: []api.Router{}}, {Maps: make([]api.Map, 1)}, {Routers: make([]api.Router, 1)}, {Maps: make([]api.Map, 1), Routers: make([]api.Router, 1)}} {
		if err := check.Config(c); err != nil {
			t.Errorf("%v: %v", c, err)
		}
	}
}

func TestRight(t *testing.T) {
	for _, s := range []string{
		"",
		"map m { } map n { }",
		"router a { }",
		"router a { net 10.0.0.0/8; } router b { }",
		"router a { link b cost 1; } router b { link a cost 2; }",
		// The peers stand ahead or behind.
		"router b { } router c { link a cost 1; } router a { link c cost 1; }",
		"router a { net 10.0.0.0/8; link b cost 1; link d cost 1; } router b { link a cost 1; link c cost 1; } router c { link b cost 1; link d cost 1; } router d { link a cost 1; link c cost 1; }",
		// Import and Export are maps, or empty; one map at many places.
		"map m { } router a { link b cost 1 import m; } router b { link a cost 1; }",
		"map m { } router a { link b cost 1 export m; } router b { link a cost 1; }",
		"map m { } map n { } router a { link b cost 1 import m export n; } router b { link a cost 1 import n export m; }",
		"map m { } router a { link b cost 1 import m export m; } router b { link a cost 1 import m export m; }",
		"map m { if any then drop; if any then drop; } router a { }",
		// A map has a router's name.
		"map a { } map b { } router a { link b cost 1 import a; } router b { link a cost 1 export b; }",
		// Nets within one another, and of several routers.
		"router a { net 10.0.0.0/8; net 10.0.0.0/16; net 10.0.0.0/9; net 0.0.0.0/0; net 11.0.0.0/8; }",
		"router a { net 10.0.0.0/8; } router b { net 10.0.0.0/8; }",
		// Ways by one link, for the router's own net, within one another, and of several routers.
		"router a { net 10.0.0.0/8; link b cost 1; static 10.0.0.0/8 via b; static 10.0.0.0/16 via b; static 0.0.0.0/0 via b; } router b { link a cost 1; static 10.0.0.0/8 via a; }",
		// Routers that send to one another for ever.
		"router a { link b cost 1; static 10.0.0.0/8 via b; } router b { link a cost 1; static 10.0.0.0/8 via a; }",
	} {
		wantRight(t, s)
	}
}

// P9.2: each error, and its place.

func TestMapTwice(t *testing.T) {
	wantAt(t, "map m { } @map m { }", api.ErrTwice)
	wantAt(t, "map m { } map n { } @map m { } router m { }", api.ErrTwice)
	wantAt(t, "map m { } map n { } @map n { } map m { }", api.ErrTwice)
	wantAt(t, "map m { } @map m { if any then drop; } map m { }", api.ErrTwice)
	wantAt(t, "map n { } map m { } map mm { } @map m { }", api.ErrTwice)
}

func TestRouterTwice(t *testing.T) {
	wantAt(t, "router a { } @router a { }", api.ErrTwice)
	wantAt(t, "router a { } router b { } @router a { } router b { }", api.ErrTwice)
	wantAt(t, "router a { } router b { } @router b { } router a { }", api.ErrTwice)
	wantAt(t, "router a { link b cost 1; } router b { link a cost 1; } @router a { link b cost 1; }", api.ErrTwice)
	wantAt(t, "map a { } router a { } @router a { }", api.ErrTwice)
}

func TestNetTwice(t *testing.T) {
	wantAt(t, "@router a { net 10.0.0.0/8; net 10.0.0.0/8; }", api.ErrTwice)
	wantAt(t, "@router a { net 10.0.0.0/8; net 11.0.0.0/8; net 10.0.0.0/16; net 10.0.0.0/8; }", api.ErrTwice)
	wantAt(t, "router a { net 10.0.0.0/8; } @router b { net 11.0.0.0/8; net 0.0.0.0/0; net 0.0.0.0/0; }", api.ErrTwice)
}

func TestPeerThatIsNone(t *testing.T) {
	wantAt(t, "router a { @link b cost 1; }", api.ErrName)
	wantAt(t, "router a { @link a cost 1; }", api.ErrName)
	wantAt(t, "router a { link b cost 1; @link a cost 1; } router b { link a cost 1; }", api.ErrName)
	wantAt(t, "router a { link b cost 1; @link c cost 1; } router b { link a cost 1; }", api.ErrName)
	// A map is no router, nor is a router's name cut short.
	wantAt(t, "map m { } router a { @link m cost 1; }", api.ErrName)
	wantAt(t, "router a { @link b cost 1; } router bb { link a cost 1; }", api.ErrName)
	// Whom other routers link to is no router for that.
	wantAt(t, "router a { link b cost 1; } router b { link a cost 1; @link c cost 1; } router d { link c cost 1; }", api.ErrName)
}

func TestMapThatIsNone(t *testing.T) {
	back := " } router b { link a cost 1; }"
	wantAt(t, "router a { @link b cost 1 import m;"+back, api.ErrName)
	wantAt(t, "router a { @link b cost 1 export m;"+back, api.ErrName)
	wantAt(t, "map n { } router a { @link b cost 1 import n export m;"+back, api.ErrName)
	wantAt(t, "map n { } router a { @link b cost 1 import m export n;"+back, api.ErrName)
	wantAt(t, "map mm { } router a { @link b cost 1 import m;"+back, api.ErrName)
	// A router is no map.
	wantAt(t, "router a { @link b cost 1 import a;"+back, api.ErrName)
	wantAt(t, "router a { @link b cost 1 export b;"+back, api.ErrName)
	wantAt(t, "map m { } router a { link b cost 1 import m; } router b { @link a cost 1 export n; }", api.ErrName)
}

func TestPeerThatIsThereTwice(t *testing.T) {
	wantAt(t, "router a { link b cost 1; @link b cost 2; } router b { link a cost 1; }", api.ErrTwice)
	wantAt(t, "router a { link b cost 1; link c cost 1; @link b cost 1; link c cost 1; } router b { link a cost 1; } router c { link a cost 1; }", api.ErrTwice)
	wantAt(t, "router a { link b cost 1; } router b { link a cost 1; @link a cost 1; }", api.ErrTwice)
}

func TestNoLinkBack(t *testing.T) {
	// The chapter's example.
	wantAt(t, "router a { @link b cost 1; } router b { }", api.ErrLink)
	wantAt(t, "router a { } router b { @link a cost 1; }", api.ErrLink)
	wantAt(t, "router a { link b cost 1; } router b { link a cost 1; @link c cost 1; } router c { }", api.ErrLink)
	// Links that go round are none back.
	wantAt(t, "router a { @link b cost 1; } router b { link c cost 1; } router c { link a cost 1; }", api.ErrLink)
	wantAt(t, "router a { @link b cost 1; } router b { link aa cost 1; } router aa { link b cost 1; }", api.ErrLink)
	// Names put behind each other are no name.
	wantAt(t, "router a { @link bc cost 1; } router bc { } router ab { link c cost 1; } router c { link ab cost 1; }", api.ErrLink)
}

func TestWayWithoutALink(t *testing.T) {
	wantAt(t, "router a { @static 10.0.0.0/8 via b; } router b { }", api.ErrName)
	wantAt(t, "router a { @static 10.0.0.0/8 via a; }", api.ErrName)
	wantAt(t, "router a { @static 10.0.0.0/8 via x; }", api.ErrName)
	wantAt(t, "map m { } router a { link b cost 1 import m; @static 10.0.0.0/8 via m; } router b { link a cost 1; }", api.ErrName)
	wantAt(t, "router a { link b cost 1; static 10.0.0.0/8 via b; @static 11.0.0.0/8 via c; } router b { link a cost 1; link c cost 1; } router c { link b cost 1; }", api.ErrName)
}

func TestWayTwice(t *testing.T) {
	back := " } router b { link a cost 1; link c cost 1; } router c { link b cost 1; link a cost 1; }"
	ahead := "router a { link b cost 1; link c cost 1; static 10.0.0.0/8 via b; "
	wantAt(t, ahead+"@static 10.0.0.0/8 via b;"+back, api.ErrTwice)
	wantAt(t, ahead+"@static 10.0.0.0/8 via c;"+back, api.ErrTwice)
	wantAt(t, ahead+"static 10.0.0.0/16 via b; static 11.0.0.0/8 via b; @static 10.0.0.0/8 via b; static 11.0.0.0/8 via b;"+back, api.ErrTwice)
}

// P9.2: which of several errors is told.

// slots are pieces of a text, from the error on that is told first: each may be as it should, or have the error.
var slots = []struct {
	right, wrong string
	no           api.Errno
}{
	{"", "@map m { }", api.ErrTwice},
	{"", "@map n { }", api.ErrTwice},
	{"router a { net 10.0.0.0/8;", "@router a { net 10.0.0.0/8; net 10.0.0.0/8;", api.ErrTwice},
	{"link b cost 1;", "@link b cost 1 import x;", api.ErrName},
	{"link c cost 1 import m;", "link c cost 1 import m; @link b cost 1;", api.ErrTwice},
	{"link e cost 1;", "@link d cost 1;", api.ErrLink},
	{"", "@link a cost 1;", api.ErrName},
	{"static 10.0.0.0/8 via b;", "@static 10.0.0.0/8 via x;", api.ErrName},
	{"static 11.0.0.0/8 via c; }", "static 11.0.0.0/8 via c; @static 11.0.0.0/8 via b; }", api.ErrTwice},
	{"router b { net 10.0.0.0/8;", "@router b { net 10.0.0.0/8; net 10.0.0.0/8;", api.ErrTwice},
	{"link a cost 1 export n;", "link a cost 1 export n; @link d cost 1;", api.ErrLink},
	{"", "@link x cost 1;", api.ErrName},
	{"", "@link a cost 1;", api.ErrTwice},
	{"static 11.0.0.0/8 via a;", "static 11.0.0.0/8 via a; @static 11.0.0.0/8 via a;", api.ErrTwice},
	{"}", "@static 12.0.0.0/8 via c; }", api.ErrName},
}

// behindSlots is the routers that the slots' two link to.
const behindSlots = " router c { link a cost 1; } router d { } router e { link a cost 1; }"

// slotText is the slots' text, those with a bit of the mask being wrong; @ marks the first one's place.
func slotText(mask int) (marked string, no api.Errno) {
	for i, s := range slots {
		piece := s.right
		if mask>>i&1 == 1 {
			piece = s.wrong
			if no != 0 {
				piece = strings.ReplaceAll(piece, "@", "")
			} else {
				no = s.no
			}
		}
		marked += " " + piece
	}
	return "map m { } map n { }" + marked + behindSlots, no
}

// Each error alone, with each one that is told later, and with all of these.
func TestWhichIsTold(t *testing.T) {
	s, _ := slotText(0)
	wantRight(t, s)
	for i := range slots {
		later := 1<<len(slots) - 1<<i
		for k := range slots {
			marked, no := slotText(1<<i | later&(1<<k))
			wantAt(t, marked, no)
		}
		marked, no := slotText(later)
		wantAt(t, marked, no)
	}
}

// What is there twice of maps, and then of routers, is told ahead of all that is wrong within routers.
func TestNamesAheadOfRouters(t *testing.T) {
	marked, _ := slotText(1<<len(slots) - 4)
	all := strings.ReplaceAll(marked, "@", "")
	for _, twice := range []string{"a", "c", "e"} {
		wantAt(t, all+"@router "+twice+" { } router d { }", api.ErrTwice)
		wantAt(t, "map q { } @map q { }"+all+"router "+twice+" { }", api.ErrTwice)
	}
	wantAt(t, all+"router f { net 10.0.0.0/8; net 10.0.0.0/8; link x cost 1; } @router f { }", api.ErrTwice)
}

// Of one link, and of one way, that is wrong in several ways.
func TestWhichIsToldOfOne(t *testing.T) {
	// A peer that is none, and is there twice, is told where it is there first; with a wrong map, it is ErrName that is told of the second.
	wantAt(t, "router a { link b cost 1; @link b cost 1 import x; } router b { link a cost 1; }", api.ErrName)
	wantAt(t, "router a { link b cost 1; @link b cost 1 export x; } router b { link a cost 1; }", api.ErrName)
	wantAt(t, "router a { @link x cost 1; link x cost 1; }", api.ErrName)
	wantAt(t, "router a { @link a cost 1; link a cost 1; }", api.ErrName)
	// No link back: behind a wrong map, and ahead of the same peer once more.
	wantAt(t, "router a { @link b cost 1 import x; } router b { }", api.ErrName)
	wantAt(t, "router a { @link b cost 1 export x; } router b { }", api.ErrName)
	wantAt(t, "router a { @link b cost 1; link b cost 1; } router b { }", api.ErrLink)
	// A way without a link whose prefix is there twice.
	wantAt(t, "router a { link b cost 1; static 10.0.0.0/8 via b; @static 10.0.0.0/8 via x; } router b { link a cost 1; }", api.ErrName)
	wantAt(t, "router a { @static 10.0.0.0/8 via x; static 10.0.0.0/8 via x; }", api.ErrName)
}

// The links' order in the router decides, not what is wrong with them.
func TestLinksOneByOne(t *testing.T) {
	links := []struct {
		text string
		no   api.Errno
	}{
		{"link x cost 1;", api.ErrName},
		{"link a cost 1;", api.ErrName},
		{"link b cost 1 export x;", api.ErrName},
		{"link c cost 1;", api.ErrTwice},
		{"link d cost 1;", api.ErrLink},
	}
	behind := "} router b { link a cost 1; } router c { link a cost 1; } router d { }"
	for _, first := range links {
		for _, second := range links {
			wantAt(t, "router a { link c cost 1; @"+first.text+second.text+behind, first.no)
			wantAt(t, "router a { link c cost 1; link b cost 1; @"+first.text+second.text+behind, first.no)
		}
	}
}

// The routers' order decides, not what is wrong with them.
func TestRoutersOneByOne(t *testing.T) {
	routers := []struct {
		marked string
		no     api.Errno
	}{
		{"@router a { net 10.0.0.0/8; net 10.0.0.0/8; }", api.ErrTwice},
		{"router b { @link x cost 1; }", api.ErrName},
		{"router c { @link e cost 1; }", api.ErrLink},
		{"router d { @static 10.0.0.0/8 via e; }", api.ErrName},
		{"router f { link g cost 1; @link g cost 1; }", api.ErrTwice},
		{"router h { link g cost 1; static 0.0.0.0/0 via g; @static 0.0.0.0/0 via g; }", api.ErrTwice},
	}
	right := "router e { } router g { link f cost 1; link h cost 1; }"
	for i, first := range routers {
		for k := range routers {
			rest := ""
			for n := range routers {
				if other := (k + n) % len(routers); other != i {
					rest += strings.ReplaceAll(routers[other].marked, "@", "")
				}
			}
			wantAt(t, first.marked+rest+right, first.no)
			wantAt(t, right+first.marked+rest, first.no)
		}
	}
}

// W1: configurations that no text has.

func TestNamesThatNoTextHas(t *testing.T) {
	two := func(a, b string, turn func(c *api.Config)) api.Config {
		c := api.Config{Routers: []api.Router{
			{Name: a, At: 1, Links: []api.Link{{Peer: b, At: 2}}, Statics: []api.Static{{Via: b, At: 3}}},
			{Name: b, At: 4, Links: []api.Link{{Peer: a, At: 5}}},
		}}
		turn(&c)
		return c
	}
	as := func(*api.Config) {}
	for _, n := range []string{"", "A", "a b", "\x00", "\xff", strings.Repeat("b", 1000)} {
		if err := check.Config(two("a", n, as)); err != nil {
			t.Errorf("%q: %v", n, err)
		}
		wantFault(t, two(n, n, as), api.ErrTwice, 4)
		wantFault(t, two(n, "b", func(c *api.Config) { c.Routers[0].Links[0].Peer = n }), api.ErrName, 2)
		wantFault(t, two(n, "b", func(c *api.Config) { c.Routers[0].Statics[0].Via = n }), api.ErrName, 3)
		wantFault(t, two("a", "b", func(c *api.Config) { c.Maps = []api.Map{{Name: n}, {Name: "m"}, {Name: n, At: 9}} }), api.ErrTwice, 9)
		c := two("a", "b", func(c *api.Config) { c.Routers[0].Links[0].Export = n })
		if n == "" {
			// An empty name is no map's, so that none is looked up.
			if err := check.Config(c); err != nil {
				t.Error(err)
			}
			continue
		}
		wantFault(t, c, api.ErrName, 2)
		c.Maps = []api.Map{{Name: n}}
		if err := check.Config(c); err != nil {
			t.Errorf("%q: %v", n, err)
		}
	}
	// Names that are the same put behind each other are told apart.
	wantFault(t, two("a\x00", "b", func(c *api.Config) { c.Routers[1].Links[0].Peer = "a" }), api.ErrLink, 2)
	if err := check.Config(two("a ", " a", as)); err != nil {
		t.Error(err)
	}
}

// Prefixes are held against each other as they are, whether they may be or not.
func TestPrefixesThatNoTextHas(t *testing.T) {
	all := []api.Prefix{{}, {Addr: 1}, {Bits: 1}, {Bits: -1}, {Bits: 33}, {Bits: math.MaxInt}, {Addr: 10 << 24, Bits: 8}, {Addr: 10<<24 + 1, Bits: 8}, {Addr: 10 << 24, Bits: 9}, {Addr: math.MaxUint32, Bits: 32}}
	of := func(nets, ways []api.Prefix) api.Config {
		a := api.Router{Name: "a", At: 1, Nets: nets, Links: []api.Link{{Peer: "b", At: 2}}}
		for k, p := range ways {
			a.Statics = append(a.Statics, api.Static{Prefix: p, Via: "b", At: 10 + k})
		}
		return api.Config{Routers: []api.Router{a, {Name: "b", Links: []api.Link{{Peer: "a"}}}}}
	}
	if err := check.Config(of(all, all)); err != nil {
		t.Error(err)
	}
	for _, p := range all {
		more := append(append([]api.Prefix{}, all...), p)
		wantFault(t, of(more, more), api.ErrTwice, 1)
		wantFault(t, of(all, more), api.ErrTwice, 10+len(all))
	}
}

// Places are told as they were handed in.
func TestPlaces(t *testing.T) {
	for _, at := range []int{0, 1, -1, 1 << 40, math.MaxInt, math.MinInt} {
		wantFault(t, api.Config{Maps: []api.Map{{}, {At: at}}}, api.ErrTwice, at)
		wantFault(t, api.Config{Routers: []api.Router{{}, {At: at}}}, api.ErrTwice, at)
		wantFault(t, api.Config{Routers: []api.Router{{At: at, Nets: make([]api.Prefix, 2)}}}, api.ErrTwice, at)
		wantFault(t, api.Config{Routers: []api.Router{{At: 7, Links: []api.Link{{At: at}}}}}, api.ErrName, at)
		wantFault(t, api.Config{Routers: []api.Router{{At: 7, Statics: []api.Static{{At: at}}}}}, api.ErrName, at)
	}
}

// Costs, and what clauses say, are not asked.
func TestWhatIsNotAsked(t *testing.T) {
	c := api.Config{
		Maps:    []api.Map{{Name: "m", Clauses: make([]api.Clause, 100)}},
		Routers: []api.Router{{Name: "a", Links: []api.Link{{Peer: "b", Cost: -1}}}, {Name: "b", Links: []api.Link{{Peer: "a", Cost: 100000}}}},
	}
	if err := check.Config(c); err != nil {
		t.Error(err)
	}
}

// star is a router with as many others around it; each has ways, and nets.
func star(many int) api.Config {
	hub := api.Router{Name: "hub", At: -1}
	c := api.Config{Routers: make([]api.Router, 1)}
	for k := range many {
		n, p := "r"+strconv.Itoa(k), api.Prefix{Addr: uint32(k), Bits: 32}
		c.Maps = append(c.Maps, api.Map{Name: n})
		hub.Nets = append(hub.Nets, p)
		hub.Links = append(hub.Links, api.Link{Peer: n, Import: n, At: k})
		hub.Statics = append(hub.Statics, api.Static{Prefix: p, Via: n})
		c.Routers = append(c.Routers, api.Router{Name: n, Links: []api.Link{{Peer: "hub", Export: n}}})
	}
	c.Routers[0] = hub
	return c
}

// More than a text may have is looked through, too.
func TestMany(t *testing.T) {
	const many = 100000
	c := star(many)
	if err := check.Config(c); err != nil {
		t.Error(err)
	}
	c.Routers[many].Links = nil
	wantFault(t, c, api.ErrLink, many-1)
	c.Routers[0].Nets[many-1] = c.Routers[0].Nets[0]
	wantFault(t, c, api.ErrTwice, -1)
}

// W2, W6: nothing is changed, and the same is answered each time, in memory of its own, whoever asks at the same time.

func TestNewMemory(t *testing.T) {
	link := api.Link{Peer: strings.Clone("peer"), Import: strings.Clone("imported"), Export: strings.Clone("exported"), Cost: 1}
	r := api.Router{Name: "a", Links: []api.Link{link}}
	l, ok := check.Peer(r, strings.Clone("peer"))
	if !ok || l != link || r.Links[0] != link {
		t.Fatal(l, ok, r)
	}
	for _, n := range [][2]string{{l.Peer, link.Peer}, {l.Import, link.Import}, {l.Export, link.Export}} {
		if unsafe.StringData(n[0]) == unsafe.StringData(n[1]) {
			t.Errorf("%q lies in what was handed in", n[0])
		}
	}
}

func TestNothingIsChanged(t *testing.T) {
	for i := range slots {
		marked, _ := slotText(1 << i)
		c, _ := read(t, marked)
		want, first := told(c), check.Config(c)
		l, ok := check.Peer(c.Routers[0], "c")
		if again := check.Config(c); again != first || told(c) != want || !ok || l != c.Routers[0].Links[1] {
			t.Errorf("%s: %v, %v, %v, %s", marked, first, again, l, told(c))
		}
	}
}

func TestManyAtOnce(t *testing.T) {
	s, _ := slotText(0)
	right, _ := read(t, s)
	marked, no := slotText(1 << 12)
	wrong, at := read(t, marked)
	var all sync.WaitGroup
	for range 8 {
		all.Go(func() {
			for range 500 {
				l, ok := check.Peer(right.Routers[0], "c")
				if check.Config(right) != nil || check.Config(wrong) != api.Wrap(no, at) || !ok || l.Import != "m" {
					t.Error(check.Config(right), check.Config(wrong), l, ok)
					return
				}
			}
		})
	}
	all.Wait()
}
