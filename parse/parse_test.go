package parse_test

import (
	"errors"
	"fmt"
	"math/rand"
	"slices"
	"strconv"
	"strings"
	"sync"
	"testing"
	"unsafe"

	"maquette/api"
	"maquette/parse"
	"maquette/text"
	"maquette/token"
)

// words are all that stand in quotes in the chapter: names, where names stand.
var words = []string{"map", "if", "any", "with", "out", "then", "drop", "set", "clear", "more", "pref", "router", "net", "link", "cost", "import", "export", "static", "via"}

var (
	ten  = api.Prefix{Addr: 10 << 24, Bits: 8}
	tiny = api.Prefix{Addr: 10<<24 + 1<<16 + 2<<8 + 3, Bits: 32}
	zero = api.Prefix{}
)

// short is a text that can be told of.
func short(s string) string {
	if len(s) > 200 {
		return strconv.Quote(s[:100]) + ".." + strconv.Quote(s[len(s)-100:])
	}
	return strconv.Quote(s)
}

// told is all that a configuration has, nil lists and empty ones being the same.
func told(c api.Config) string { return fmt.Sprintf("%+v", c) }

// wantConfig holds what a text is read as against a configuration.
func wantConfig(t *testing.T, s string, want api.Config) {
	t.Helper()
	got, err := parse.Config(s)
	if err != nil || told(got) != told(want) {
		t.Errorf("%s:\n%v, %v; want\n%v", short(s), short(told(got)), err, short(told(want)))
	}
}

// wantFault holds what a text is read as against nothing, and an error at a place.
func wantFault(t *testing.T, s string, no api.Errno, at int) {
	t.Helper()
	got, err := parse.Config(s)
	if !errors.Is(err, no) || api.Number(err) != no || api.Place(err) != at {
		t.Errorf("%s: %v; want %v at %d", short(s), err, no, at)
	}
	if len(got.Maps) != 0 || len(got.Routers) != 0 {
		t.Errorf("%s: %v beside %v", short(s), short(told(got)), err)
	}
}

// wantAt is wantFault at the place that @ marks in a text.
func wantAt(t *testing.T, marked string, no api.Errno) {
	t.Helper()
	s := strings.Replace(marked, "@", "", 1)
	if len(s) == len(marked) {
		t.Fatalf("%s: no place", short(marked))
	}
	wantFault(t, s, no, strings.Index(marked, "@"))
}

// at is where a piece stands that is in a text just once.
func at(t *testing.T, s, piece string) int {
	t.Helper()
	if strings.Count(s, piece) != 1 {
		t.Fatalf("%q in %q", piece, s)
	}
	return strings.Index(s, piece)
}

// wantClause holds what a clause's text is read as, alone and behind another one, against a clause.
func wantClause(t *testing.T, s string, want api.Clause) {
	t.Helper()
	wantConfig(t, "map m {"+s+"}", api.Config{Maps: []api.Map{{Name: "m", Clauses: []api.Clause{want}}}})
	wantConfig(t, "map m { if any then;"+s+"}", api.Config{Maps: []api.Map{{Name: "m", Clauses: []api.Clause{{Any: true}, want}}}})
}

// wantRouter holds what the text of a router that begins the text is read as against a router.
func wantRouter(t *testing.T, s string, want api.Router) {
	t.Helper()
	wantConfig(t, s, api.Config{Routers: []api.Router{want}})
}

// P8.1: which texts are read, and as what.

func TestExample(t *testing.T) {
	wantRouter(t, "router a { net 10.0.0.0/8; }", api.Router{Name: "a", Nets: []api.Prefix{ten}})
}

func TestNothing(t *testing.T) {
	for _, s := range []string{"", " ", "\n", "\t \n", "#", "# nothing\n", "# map m { if\n#", strings.Repeat("\n", api.MaxText)} {
		wantConfig(t, s, api.Config{})
	}
}

func TestEachForm(t *testing.T) {
	s := `
map in {
	if 10.0.0.0/8 with 0 out 1 2 then drop set 3 clear 0 1 more 4 pref 200;
	if any then; # nothing else
}
map out { }
router a {
	net 10.0.0.0/8;
	net 0.0.0.0/0;
	link b cost 5 import in export out;
	link c cost 1000;
	static 10.1.2.3/32 via b;
	static 0.0.0.0/0 via c;
}
router b { link a cost 1 export in; }
router c { }`
	wantConfig(t, s, api.Config{
		Maps: []api.Map{
			{Name: "in", At: 1, Clauses: []api.Clause{
				{Prefix: ten, With: 1, Out: 6, Drop: true, Set: 8, Clear: 3, More: 4, Pref: 200},
				{Any: true},
			}},
			{Name: "out", At: at(t, s, "map out")},
		},
		Routers: []api.Router{
			{
				Name: "a", At: at(t, s, "router a"),
				Nets: []api.Prefix{ten, zero},
				Links: []api.Link{
					{Peer: "b", Cost: 5, Import: "in", Export: "out", At: at(t, s, "link b")},
					{Peer: "c", Cost: 1000, At: at(t, s, "link c")},
				},
				Statics: []api.Static{
					{Prefix: tiny, Via: "b", At: at(t, s, "static 10.1.2.3/32")},
					{Prefix: zero, Via: "c", At: at(t, s, "static 0.0.0.0/0")},
				},
			},
			{Name: "b", At: at(t, s, "router b"), Links: []api.Link{{Peer: "a", Cost: 1, Export: "in", At: at(t, s, "link a")}}},
			{Name: "c", At: at(t, s, "router c")},
		},
	})
}

func TestMaps(t *testing.T) {
	wantConfig(t, "map m { }", api.Config{Maps: []api.Map{{Name: "m"}}})
	wantConfig(t, "map m{}map m{}", api.Config{Maps: []api.Map{{Name: "m"}, {Name: "m", At: 7}}})
	wantConfig(t, "map b {} map a {if any then;}", api.Config{Maps: []api.Map{{Name: "b"}, {Name: "a", At: 9, Clauses: []api.Clause{{Any: true}}}}})
}

// Each part of a clause there or not, with each of the others there or not.
func TestClauseParts(t *testing.T) {
	parts := []struct {
		there string
		put   func(c *api.Clause)
	}{
		{" with 0 3", func(c *api.Clause) { c.With = 9 }},
		{" out 2", func(c *api.Clause) { c.Out = 4 }},
		{" then", func(*api.Clause) {}},
		{" drop", func(c *api.Clause) { c.Drop = true }},
		{" set 1", func(c *api.Clause) { c.Set = 2 }},
		{" clear 0 1 2 3", func(c *api.Clause) { c.Clear = 15 }},
		{" more 7", func(c *api.Clause) { c.More = 7 }},
		{" pref 99", func(c *api.Clause) { c.Pref = 99 }},
	}
	for mask := range 256 {
		s, c := "", api.Clause{}
		for i, p := range parts {
			if mask>>i&1 == 1 || i == 2 {
				s += p.there
				p.put(&c)
			}
		}
		c.Prefix = ten
		wantClause(t, "if 10.0.0.0/8"+s+";", c)
		c.Any, c.Prefix = true, api.Prefix{}
		wantClause(t, "if any"+s+";", c)
	}
}

// tagsOf is the bits of numbers, and else which of them is wrong, and how.
func tagsOf(numbers []int) (bits uint8, wrong int, no api.Errno) {
	for i, n := range numbers {
		switch {
		case n > 3:
			return 0, i, api.ErrRange
		case i > 0 && n <= numbers[i-1]:
			return 0, i, api.ErrTwice
		}
		bits |= 1 << n
	}
	return bits, -1, 0
}

// eachList goes through all lists of so many numbers, from 0 to most.
func eachList(many, most int, do func([]int)) {
	if many == 0 {
		do(nil)
		return
	}
	eachList(many-1, most, func(ahead []int) {
		for n := range most + 1 {
			do(append(slices.Clone(ahead), n))
		}
	})
}

// All lists of at most five tags, behind each of their words.
func TestTags(t *testing.T) {
	places := []struct {
		ahead, behind string
		bits          func(c *api.Clause) *uint8
	}{
		{"if any with", " out 1 then;", func(c *api.Clause) *uint8 { return &c.With }},
		{"if any with 1 out", " then drop;", func(c *api.Clause) *uint8 { return &c.Out }},
		{"if any then set", " clear 1;", func(c *api.Clause) *uint8 { return &c.Set }},
		{"if any then set 1 clear", " more 1;", func(c *api.Clause) *uint8 { return &c.Clear }},
	}
	for k, p := range places {
		want := []api.Clause{{Any: true, Out: 2}, {Any: true, With: 2, Drop: true}, {Any: true, Clear: 2}, {Any: true, Set: 2, More: 1}}[k]
		for many := 1; many <= 5; many++ {
			eachList(many, 4, func(numbers []int) {
				s := ""
				for _, n := range numbers {
					s += " " + strconv.Itoa(n)
				}
				bits, wrong, no := tagsOf(numbers)
				if wrong >= 0 {
					wantFault(t, "map m {"+p.ahead+s+p.behind+"}", no, len("map m {"+p.ahead)+2*wrong+1)
					return
				}
				*p.bits(&want) = bits
				wantClause(t, p.ahead+s+p.behind, want)
			})
		}
	}
}

func TestTagsAtTheEdges(t *testing.T) {
	wantClause(t, "if any with 0 1 2 3 then;", api.Clause{Any: true, With: 15})
	wantAt(t, "map m { if any with @4 then; }", api.ErrRange)
	wantAt(t, "map m { if any with 0 1 2 3 @4 then; }", api.ErrRange)
	wantAt(t, "map m { if any with @999999 then; }", api.ErrRange)
	wantAt(t, "map m { if any with 0 @256 then; }", api.ErrRange)
	wantAt(t, "map m { if any with 0 @0 then; }", api.ErrTwice)
	wantAt(t, "map m { if any with 3 @3 then; }", api.ErrTwice)
	wantAt(t, "map m { if any then set 1 @0 }", api.ErrTwice)
	wantAt(t, "map m { if any then clear 0 2 @1; }", api.ErrTwice)
	// Of two that are wrong the first one is told.
	wantAt(t, "map m { if any with 1 @1 4 then; }", api.ErrTwice)
	wantAt(t, "map m { if any with @4 1 1 then; }", api.ErrRange)
	wantAt(t, "map m { if any with 0 out 1 @1 then more 16; }", api.ErrTwice)
	// Each word has tags of its own.
	wantClause(t, "if any with 3 out 0 then set 3 clear 0;", api.Clause{Any: true, With: 8, Out: 1, Set: 8, Clear: 1})
	for _, word := range []string{"with", "out", "then set", "then clear"} {
		for _, other := range []string{";", "then", "any", "10.0.0.0/8", "{", "}", word} {
			wantAt(t, "map m { if any "+word+" @"+other+" }", api.ErrParse)
		}
		wantAt(t, "map m { if any "+word+"@", api.ErrParse)
	}
	wantAt(t, "map m { if any with 0 @10.0.0.0/8 then; }", api.ErrParse)
}

// Numbers that have a least and a greatest one, at all that are near these.
func TestNumbers(t *testing.T) {
	for _, p := range []struct {
		ahead, behind string
		most          int
		want          func(n int) api.Config
	}{
		{"router r { link b cost ", "; }", 1000, func(n int) api.Config {
			return api.Config{Routers: []api.Router{{Name: "r", Links: []api.Link{{Peer: "b", Cost: n, At: 11}}}}}
		}},
		{"router r { link b cost ", " import m; }", 1000, func(n int) api.Config {
			return api.Config{Routers: []api.Router{{Name: "r", Links: []api.Link{{Peer: "b", Cost: n, Import: "m", At: 11}}}}}
		}},
		{"map m { if any then more ", "; }", 15, func(n int) api.Config {
			return api.Config{Maps: []api.Map{{Name: "m", Clauses: []api.Clause{{Any: true, More: n}}}}}
		}},
		{"map m { if any then more ", " pref 255; }", 15, func(n int) api.Config {
			return api.Config{Maps: []api.Map{{Name: "m", Clauses: []api.Clause{{Any: true, More: n, Pref: 255}}}}}
		}},
		{"map m { if any then pref ", "; }", 255, func(n int) api.Config {
			return api.Config{Maps: []api.Map{{Name: "m", Clauses: []api.Clause{{Any: true, Pref: n}}}}}
		}},
	} {
		for n := 1; n <= p.most; n++ {
			wantConfig(t, p.ahead+strconv.Itoa(n)+p.behind, p.want(n))
		}
		for _, n := range []int{0, p.most + 1, p.most + 2, p.most * 2, 1001, 65537, 999999} {
			wantFault(t, p.ahead+strconv.Itoa(n)+p.behind, api.ErrRange, len(p.ahead))
		}
		// What is not written as a number is no such sign.
		for _, s := range []string{"1000000", "-1", "01", "1.5"} {
			wantFault(t, p.ahead+s+p.behind, api.ErrLex, len(p.ahead))
		}
		for _, s := range []string{"a", "10.0.0.0/8", ";", "{", "}"} {
			wantFault(t, p.ahead+s+p.behind, api.ErrParse, len(p.ahead))
		}
		wantFault(t, p.ahead, api.ErrParse, len(p.ahead))
		wantFault(t, p.ahead+"1 1"+p.behind, api.ErrParse, len(p.ahead)+2)
	}
}

func TestLinks(t *testing.T) {
	for s, want := range map[string]api.Link{
		"link b cost 1;":                             {Peer: "b", Cost: 1},
		"link b cost 1 import m;":                    {Peer: "b", Cost: 1, Import: "m"},
		"link b cost 1 export m;":                    {Peer: "b", Cost: 1, Export: "m"},
		"link b cost 1 import m export n;":           {Peer: "b", Cost: 1, Import: "m", Export: "n"},
		"link b cost 1 import m export m;":           {Peer: "b", Cost: 1, Import: "m", Export: "m"},
		"link b-2 cost 1000 import m-1;":             {Peer: "b-2", Cost: 1000, Import: "m-1"},
		"link r cost 77 export exports;":             {Peer: "r", Cost: 77, Export: "exports"},
		"link abcdefghijklmnop cost 999;":            {Peer: "abcdefghijklmnop", Cost: 999},
		"link b cost 1 import import;":               {Peer: "b", Cost: 1, Import: "import"},
		"link b cost 1 import export;":               {Peer: "b", Cost: 1, Import: "export"},
		"link cost cost 1 export export;":            {Peer: "cost", Cost: 1, Export: "export"},
		"link b cost 1 import import export import;": {Peer: "b", Cost: 1, Import: "import", Export: "import"},
		"link b cost 1 import export export export;": {Peer: "b", Cost: 1, Import: "export", Export: "export"},
	} {
		want.At = len("router r {")
		wantRouter(t, "router r {"+s+"}", api.Router{Name: "r", Links: []api.Link{want}})
		other := want
		other.At += len(s) + 1
		wantRouter(t, "router r {"+s+"\n"+s+"}", api.Router{Name: "r", Links: []api.Link{want, other}})
	}
}

// What has a name may have each word as its name.
func TestNames(t *testing.T) {
	for _, n := range append(words, "a", "z-9", "abcdefghijklmnop") {
		s := "map " + n + " { } router " + n + " { link " + n + " cost 1 import " + n + " export " + n + "; static 10.0.0.0/8 via " + n + "; }"
		wantConfig(t, s, api.Config{
			Maps: []api.Map{{Name: n}},
			Routers: []api.Router{{
				Name: n, At: strings.LastIndex(s, "router "+n+" {"),
				Links:   []api.Link{{Peer: n, Cost: 1, Import: n, Export: n, At: strings.LastIndex(s, "link "+n+" cost 1")}},
				Statics: []api.Static{{Prefix: ten, Via: n, At: strings.LastIndex(s, "static 10.0.0.0/8")}},
			}},
		})
	}
	for _, other := range []string{"5", "0", "10.0.0.0/8", "{", "}", ";"} {
		wantAt(t, "map @"+other+" { }", api.ErrParse)
		wantAt(t, "router @"+other+" { }", api.ErrParse)
		wantAt(t, "router r { link @"+other+" cost 1; }", api.ErrParse)
		wantAt(t, "router r { link b cost 1 import @"+other+" }", api.ErrParse)
		wantAt(t, "router r { link b cost 1 export @"+other+" }", api.ErrParse)
		wantAt(t, "router r { static 10.0.0.0/8 via @"+other+" }", api.ErrParse)
	}
	wantAt(t, "map @abcdefghijklmnopq { }", api.ErrLex)
	wantAt(t, "router @a.b { }", api.ErrLex)
}

func TestNets(t *testing.T) {
	for s, p := range map[string]api.Prefix{"10.0.0.0/8": ten, "10.1.2.3/32": tiny, "0.0.0.0/0": zero, "255.255.255.255/32": {Addr: 1<<32 - 1, Bits: 32}, "128.0.0.0/1": {Addr: 1 << 31, Bits: 1}} {
		wantRouter(t, "router r { net "+s+"; }", api.Router{Name: "r", Nets: []api.Prefix{p}})
		wantRouter(t, "router r { net 10.0.0.0/8; net "+s+"; net "+s+"; }", api.Router{Name: "r", Nets: []api.Prefix{ten, p, p}})
		wantRouter(t, "router r { static "+s+" via b; }", api.Router{Name: "r", Statics: []api.Static{{Prefix: p, Via: "b", At: 11}}})
		wantClause(t, "if "+s+" then;", api.Clause{Prefix: p})
	}
	for _, other := range []string{"5", "a", "net", "{", "}", ";"} {
		wantAt(t, "router r { net @"+other+"; }", api.ErrParse)
		wantAt(t, "router r { static @"+other+" via b; }", api.ErrParse)
		wantAt(t, "map m { if @"+other+" then; }", api.ErrParse)
	}
	// Any stands for a Net in clauses alone.
	wantAt(t, "router r { net @any; }", api.ErrParse)
	wantAt(t, "router r { static @any via b; }", api.ErrParse)
	for _, other := range []string{"10.0.0.1/8", "10.0.0.0", "10.0.0.0/33"} {
		wantAt(t, "router r { net @"+other+"; }", api.ErrLex)
	}
}

// Nets, links and ways in all orders, some of them missing: right, if they rise.
func TestOrderWithinARouter(t *testing.T) {
	lines := []string{"net 10.0.0.0/8;", "link b cost 1;", "static 10.0.0.0/8 via b;"}
	for many := range 5 {
		eachList(many, 2, func(kinds []int) {
			s, want, wrong := "router r {", api.Router{Name: "r"}, -1
			for i, k := range kinds {
				if wrong < 0 && i > 0 && k < kinds[i-1] {
					wrong = len(s)
				}
				switch k {
				case 0:
					want.Nets = append(want.Nets, ten)
				case 1:
					want.Links = append(want.Links, api.Link{Peer: "b", Cost: 1, At: len(s)})
				case 2:
					want.Statics = append(want.Statics, api.Static{Prefix: ten, Via: "b", At: len(s)})
				}
				s += lines[k]
			}
			if s += "}"; wrong >= 0 {
				wantFault(t, s, api.ErrParse, wrong)
			} else {
				wantRouter(t, s, want)
			}
		})
	}
}

func TestGaps(t *testing.T) {
	wantConfig(t, "map m{if any then;}router r{net 10.0.0.0/8;link b cost 1;static 0.0.0.0/0 via b;}", api.Config{
		Maps:    []api.Map{{Name: "m", Clauses: []api.Clause{{Any: true}}}},
		Routers: []api.Router{{Name: "r", At: 19, Nets: []api.Prefix{ten}, Links: []api.Link{{Peer: "b", Cost: 1, At: 43}}, Statics: []api.Static{{Prefix: zero, Via: "b", At: 57}}}},
	})
	wantRouter(t, "#\n\trouter\n# router x {\nr\t{\n\n#;\nlink b#\n cost 1;}# }", api.Router{Name: "r", At: 3, Links: []api.Link{{Peer: "b", Cost: 1, At: 31}}})
}

// P8.2: which error is told else, and where.

func TestWhatCannotStand(t *testing.T) {
	for _, marked := range []string{
		// Of the whole.
		"@net", "@m", "@5", "@;", "@{", "@}", "@10.0.0.0/8", "@if any then;", "@link b cost 1;", "map m { }@;", "map m { } @m", "map m { } @net", "router r { }@}", "router r { } @5", "router r { } @map m { }", "map m { } router r { } @map n { }", "@any", "@import",
		// Of a map.
		"map@", "map @{ }", "map m@", "map m @}", "map m @if any then;", "map m @;", "map m @m { }", "map m {@", "map m { @;", "map m { @any then; }", "map m { @{ }", "map m { @m }", "map m { @net 10.0.0.0/8; }", "map m { @map n { }", "map m { @10.0.0.0/8 then; }",
		// Of a clause.
		"map m { if@", "map m { if @then; }", "map m { if @with 1 then; }", "map m { if @if any then; }", "map m { if @5 then; }", "map m { if any@", "map m { if any @any then; }", "map m { if any @10.0.0.0/8 then; }", "map m { if any@; }", "map m { if any @}", "map m { if any @drop; }", "map m { if any @set 1; }", "map m { if any @more 1; }", "map m { if any @5", "map m { if any then@", "map m { if any then @}", "map m { if any then @then; }", "map m { if any then @5; }", "map m { if any then @with 1; }", "map m { if any then drop@", "map m { if any then drop @drop; }", "map m { if any then drop @1; }", "map m { if any then; @; }", "map m { if any then;@",
		// Of its parts in another order, or twice.
		"map m { if any out 1 @with 1 then; }", "map m { if any with 1 @with 2 then; }", "map m { if any out 1 @out 2 then; }", "map m { if any then set 1 @drop; }", "map m { if any then clear 1 @set 1; }", "map m { if any then more 1 @clear 1; }", "map m { if any then pref 1 @more 1; }", "map m { if any then more 1 @drop; }", "map m { if any then set 1 @set 2; }", "map m { if any then clear 1 @clear 2; }", "map m { if any then more 1 @more 1; }", "map m { if any then pref 1 @pref 1; }", "map m { if any then pref 1 @}",
		// Of a router.
		"router@", "router @{ }", "router r@", "router r @}", "router r @net 10.0.0.0/8;", "router r @r { }", "router r {@", "router r { @;", "router r { @{", "router r { @r }", "router r { @5 }", "router r { @if any then; }", "router r { @router s { }", "router r { @map m { }", "router r { @10.0.0.0/8; }",
		// Of nets, links and ways.
		"router r { net@", "router r { net 10.0.0.0/8@", "router r { net 10.0.0.0/8 @}", "router r { net 10.0.0.0/8 @10.0.0.0/8; }", "router r { net 10.0.0.0/8; @; }", "router r { net 10.0.0.0/8 @net 10.0.0.0/8; }",
		"router r { link@", "router r { link b@", "router r { link b@; }", "router r { link b @5; }", "router r { link b @import m cost 5; }", "router r { link b cost@", "router r { link b cost @import m; }", "router r { link b cost 5@", "router r { link b cost 5 @}", "router r { link b cost 5 @m; }", "router r { link b cost 5 @cost 5; }", "router r { link b cost 5 import@", "router r { link b cost 5 import m@", "router r { link b cost 5 import m @m; }", "router r { link b cost 5 import m @import m; }", "router r { link b cost 5 export m @import m; }", "router r { link b cost 5 export m @export m; }", "router r { link b cost 5 import export @m; }",
		"router r { static@", "router r { static @b; }", "router r { static 10.0.0.0/8@", "router r { static 10.0.0.0/8@; }", "router r { static 10.0.0.0/8 @b; }", "router r { static 10.0.0.0/8 via@", "router r { static 10.0.0.0/8 via b@", "router r { static 10.0.0.0/8 via b @c; }", "router r { static 10.0.0.0/8 via b @cost 1; }", "router r { static 10.0.0.0/8 via b @}", "router r { static 10.0.0.0/8 via b; @net 10.0.0.0/8; }", "router r { static 10.0.0.0/8 via b; @link b cost 1; }", "router r { link b cost 1; @net 10.0.0.0/8; }",
	} {
		wantAt(t, marked, api.ErrParse)
	}
}

// wholeText has all forms, each part of each of them, and only what must be behind each other apart.
const wholeText = "map m{if 10.0.0.0/8 with 0 3 out 1 2 then drop set 3 clear 0 1 more 4 pref 200;if any then;}router a{net 10.0.0.0/8;link b cost 5 import m export m;static 0.0.0.0/0 via b;}router b{}"

// A text that ends too soon: at each of its tokens, the End can't stand there, but behind a map or router.
func TestEndsTooSoon(t *testing.T) {
	tokens, err := token.Cut(wholeText)
	if err != nil {
		t.Fatal(err)
	}
	right := 0
	depth := 0
	for _, one := range tokens[:len(tokens)-1] {
		s := wholeText[:one.At] + " # the end"
		if depth == 0 && (one.Text == "map" || one.Text == "router") {
			right++
			if _, err := parse.Config(s); err != nil {
				t.Errorf("%s: %v", s, err)
			}
		} else {
			wantFault(t, s, api.ErrParse, len(s))
		}
		switch one.Text {
		case "{":
			depth++
		case "}":
			depth--
		}
	}
	if right != 3 {
		t.Errorf("%d places where it may end", right)
	}
}

// The signs' errors are told ahead of all others, wherever they stand.
func TestSignsFirst(t *testing.T) {
	wantAt(t, "@$", api.ErrLex)
	wantAt(t, "router r { @$", api.ErrLex)
	wantAt(t, "5 ; } @= 01", api.ErrLex)
	wantAt(t, "map m { if any with 4 then more 16; } @M", api.ErrLex)
	wantAt(t, "router r { net 10; } # $\n @01", api.ErrLex)
	wantAt(t, strings.Repeat("map m { } ", 65)+"@1000000", api.ErrLex)
	wantAt(t, "router r { link b cost @1000000; }", api.ErrLex)
	wantFault(t, strings.Repeat(" ", api.MaxText+1), api.ErrLimit, 0)
	wantFault(t, "net = "+strings.Repeat("x", api.MaxText), api.ErrLimit, 0)
	wantFault(t, "router r { }"+strings.Repeat("\n", api.MaxText-11), api.ErrLimit, 0)
	wantRouter(t, "router r { }"+strings.Repeat("\n", api.MaxText-12), api.Router{Name: "r"})
	wantFault(t, strings.Repeat(";", api.MaxText), api.ErrParse, 0)
}

// Of several other errors the first one in the text is told, whichever it is.
func TestFirstFromTheFront(t *testing.T) {
	wantAt(t, "map m { if any with @4 then more 16 pref 256; } net", api.ErrRange)
	wantAt(t, "map m { if any with 1 @1 then more 16; ; } net", api.ErrTwice)
	wantAt(t, "map m { if any @more 16; if any with 4 then; }", api.ErrParse)
	wantAt(t, "map m { if any then more @16; if any with 1 1 then; }", api.ErrRange)
	wantAt(t, "router r { link b cost @0 5; net 10.0.0.0/8; }", api.ErrRange)
	wantAt(t, "router r { link b cost 5 @5; link b cost 0; }", api.ErrParse)
	wantAt(t, "router r { link b cost 0; link b cost @1001x; }", api.ErrLex)
	eight := strings.Repeat("net 10.0.0.0/8;", 8)
	wantAt(t, "router r {"+eight+"@net 10; link b cost 0; }", api.ErrLimit)
	wantAt(t, "router r {"+eight+"link b cost @0; static 10.0.0.0/8 via b; net 10.0.0.0/8; }", api.ErrRange)
	wantAt(t, "router r { net @10;"+eight+eight+"}", api.ErrParse)
}

// P8.1, P8.2: as many as may be, and one more.

func TestMostMaps(t *testing.T) {
	s, want := "", api.Config{}
	for range 64 {
		want.Maps = append(want.Maps, api.Map{Name: "m", At: len(s)})
		s += "map m { } "
	}
	wantConfig(t, s, want)
	for _, more := range []string{"map m { }", "map", "map 5", "map m { if any with 4", "map {", "map map m { }"} {
		wantAt(t, s+"@"+more, api.ErrLimit)
	}
	for _, more := range []string{"m { }", "if", ";", "}", "5", "net"} {
		wantAt(t, s+"@"+more, api.ErrParse)
	}
	want.Routers = []api.Router{{Name: "map", At: len(s)}}
	wantConfig(t, s+"router map { }", want)
	// Behind a router no map begins.
	wantAt(t, s+"router r { } @map m { }", api.ErrParse)
	wantAt(t, s[10:]+"router r { } @map m { }", api.ErrParse)
	wantAt(t, strings.Repeat("map m { } ", 63)+"map m { @map m { } map m { }", api.ErrParse)
}

func TestMostClauses(t *testing.T) {
	s, want := "map m {", api.Map{Name: "m"}
	for k := range 16 {
		s += "if any then pref " + strconv.Itoa(k+1) + ";"
		want.Clauses = append(want.Clauses, api.Clause{Any: true, Pref: k + 1})
	}
	wantConfig(t, s+"}", api.Config{Maps: []api.Map{want}})
	other := want
	other.At = len(s) + 1
	wantConfig(t, s+"}"+s+"}", api.Config{Maps: []api.Map{want, other}})
	// Whatever stands there, but }, is one clause too many; the End, too.
	for _, more := range []string{"if any then; }", "if", ";", "then", "m", "5", "10.0.0.0/8", "{", "map n { }", "router r { }", "", "# }"} {
		wantFault(t, s+more, api.ErrLimit, len(s)+3*strings.Count(more, "#"))
		wantFault(t, s+"}"+s+more, api.ErrLimit, 2*len(s)+1+3*strings.Count(more, "#"))
	}
	// With one clause less, it is what can't stand there.
	fewer := strings.TrimSuffix(s, "if any then pref 16;")
	for _, more := range []string{";", "then", "m", "5", "10.0.0.0/8", "{", "map n { }", "router r { }", ""} {
		wantFault(t, fewer+more, api.ErrParse, len(fewer))
	}
	wantFault(t, fewer+"if any then pref 256;", api.ErrRange, len(fewer)+len("if any then pref "))
}

func TestMostRouters(t *testing.T) {
	s, want := "", api.Config{}
	for k := range 64 {
		n := "r" + strconv.Itoa(k)
		want.Routers = append(want.Routers, api.Router{Name: n, At: len(s)})
		s += "router " + n + " { }\n"
	}
	wantConfig(t, s, want)
	for _, more := range []string{"router r { }", "router", "router 5", "router r { link b cost 0", "router router"} {
		wantAt(t, s+"@"+more, api.ErrLimit)
	}
	for _, more := range []string{"map m { }", "r64 { }", ";", "}", "5"} {
		wantAt(t, s+"@"+more, api.ErrParse)
	}
}

// Nets, links and ways: as many as may be of a router, of another one too, and one more.
func TestMostOfARouter(t *testing.T) {
	for _, p := range []struct {
		word, line string
		most       int
		put        func(r *api.Router, at int)
		behind     []string
	}{
		{"net", "net 10.0.0.0/8;", 8, func(r *api.Router, at int) { r.Nets = append(r.Nets, ten) }, []string{"link b cost 1;", "static 10.0.0.0/8 via b;", "link b cost 1; static 10.0.0.0/8 via b;"}},
		{"link", "link b cost 1;", 64, func(r *api.Router, at int) {
			r.Links = append(r.Links, api.Link{Peer: "b", Cost: 1, At: at})
		}, []string{"static 10.0.0.0/8 via b;"}},
		{"static", "static 10.0.0.0/8 via b;", 8, func(r *api.Router, at int) {
			r.Statics = append(r.Statics, api.Static{Prefix: ten, Via: "b", At: at})
		}, nil},
	} {
		s, want := "", api.Config{}
		for k := range 3 {
			want.Routers = append(want.Routers, api.Router{Name: "r", At: len(s)})
			s += "router r {"
			for range p.most {
				p.put(&want.Routers[k], len(s))
				s += p.line
			}
			s += "}"
		}
		wantConfig(t, s, want)
		open := s[:len(s)-1]
		for _, more := range []string{p.line + "}", p.word, p.word + " 5", p.word + ";"} {
			wantAt(t, open+"@"+more, api.ErrLimit)
		}
		for _, more := range []string{";", "m", "5", "if", "map m { }", "router r { }", ""} {
			wantAt(t, open+"@"+more, api.ErrParse)
		}
		// Behind what comes later none of them begins, so that it is none too many.
		for _, behind := range p.behind {
			wantAt(t, open+behind+"@"+p.line+"}", api.ErrParse)
		}
	}
}

// The greatest texts: as many as may be of what is within, in as many as may be.
func TestGreatestTexts(t *testing.T) {
	for _, w := range []struct{ head, line string }{{"map m{", strings.Repeat("if any with 0 1 2 3 then drop more 15 pref 255;", 16)}, {"router r{", strings.Repeat("link b cost 1;", 64)}, {"router r{", strings.Repeat("net 10.0.0.0/8;", 8) + strings.Repeat("static 0.0.0.0/0 via b;", 8)}} {
		s := strings.Repeat(w.head+w.line+"}", 64)
		if len(s) > api.MaxText {
			t.Fatal(len(s))
		}
		c, err := parse.Config(s)
		if err != nil || len(c.Maps)+len(c.Routers) != 64 {
			t.Error(len(c.Maps), len(c.Routers), err)
		}
		wantFault(t, s+w.head, api.ErrLimit, len(s))
		wantFault(t, s+"}", api.ErrParse, len(s))
	}
}

// P8.1: what text (7) writes of a configuration is read as this configuration.

func anyOf(r *rand.Rand, of ...string) string { return of[r.Intn(len(of))] }

func anyName(r *rand.Rand) string {
	return anyOf(r, "a", "b", "m-1", "z9", "abcdefghijklmnop", words[r.Intn(len(words))])
}

// perhaps is a number from 1 to most, or 0.
func perhaps(r *rand.Rand, most int) int {
	if r.Intn(3) > 0 {
		return 0
	}
	return []int{1, most, 1 + r.Intn(most)}[r.Intn(3)]
}

func anyPrefix(r *rand.Rand) api.Prefix {
	bits := r.Intn(33)
	return api.Prefix{Addr: uint32(r.Uint64() & (1<<32 - 1) >> (32 - bits) << (32 - bits)), Bits: bits}
}

func anyClause(r *rand.Rand) api.Clause {
	c := api.Clause{Any: r.Intn(2) > 0, Drop: r.Intn(2) > 0, More: perhaps(r, 15), Pref: perhaps(r, 255)}
	if !c.Any {
		c.Prefix = anyPrefix(r)
	}
	for _, bits := range []*uint8{&c.With, &c.Out, &c.Set, &c.Clear} {
		*bits = uint8(perhaps(r, 15))
	}
	return c
}

func anyRouter(r *rand.Rand) api.Router {
	o := api.Router{Name: anyName(r)}
	for range perhaps(r, 8) {
		o.Nets = append(o.Nets, anyPrefix(r))
	}
	for range r.Intn(10) {
		l := api.Link{Peer: anyName(r), Cost: 1 + r.Intn(1000)}
		if r.Intn(2) > 0 {
			l.Import = anyName(r)
		}
		if r.Intn(2) > 0 {
			l.Export = anyName(r)
		}
		o.Links = append(o.Links, l)
	}
	for range perhaps(r, 8) {
		o.Statics = append(o.Statics, api.Static{Prefix: anyPrefix(r), Via: anyName(r)})
	}
	return o
}

func anyConfig(r *rand.Rand) api.Config {
	var c api.Config
	for range r.Intn(5) {
		m := api.Map{Name: anyName(r)}
		for range perhaps(r, 16) {
			m.Clauses = append(m.Clauses, anyClause(r))
		}
		c.Maps = append(c.Maps, m)
	}
	for range r.Intn(5) {
		c.Routers = append(c.Routers, anyRouter(r))
	}
	return c
}

// located is a configuration with the places of its text: a line's, and in a router the line's behind its tab.
func located(c api.Config) api.Config {
	at := 0
	for i := range c.Maps {
		c.Maps[i].At = at
		at += len(text.Config(api.Config{Maps: c.Maps[i : i+1]}))
	}
	for i, o := range c.Routers {
		c.Routers[i].At = at
		line := at + len("router "+o.Name+" {\n") + 1
		for _, n := range o.Nets {
			line += lengthOf(api.Router{Nets: []api.Prefix{n}})
		}
		for k, l := range o.Links {
			o.Links[k].At = line
			line += lengthOf(api.Router{Links: []api.Link{l}})
		}
		for k, s := range o.Statics {
			o.Statics[k].At = line
			line += lengthOf(api.Router{Statics: []api.Static{s}})
		}
		at += len(text.Config(api.Config{Routers: c.Routers[i : i+1]}))
	}
	return c
}

// lengthOf is the bytes of what is in a router.
func lengthOf(r api.Router) int {
	return len(text.Config(api.Config{Routers: []api.Router{r}})) - len(text.Config(api.Config{Routers: []api.Router{{}}}))
}

func TestBackFromText(t *testing.T) {
	r := rand.New(rand.NewSource(8))
	for range 2000 {
		c := located(anyConfig(r))
		wantConfig(t, text.Config(c), c)
	}
}

// W2, W6: the same is answered each time, in memory of its own, whoever asks at the same time.

func TestNewMemory(t *testing.T) {
	s := strings.Clone(wholeText)
	first, err := parse.Config(s)
	if err != nil {
		t.Fatal(err)
	}
	want := told(first)
	clear(first.Maps[0].Clauses)
	clear(first.Maps)
	clear(first.Routers[0].Nets)
	clear(first.Routers[0].Links)
	clear(first.Routers[0].Statics)
	clear(first.Routers)
	again, err := parse.Config(s)
	if err != nil || told(again) != want {
		t.Error(again, err)
	}
	link := again.Routers[0].Links[0]
	begin := uintptr(unsafe.Pointer(unsafe.StringData(s)))
	for _, n := range []string{again.Maps[0].Name, again.Routers[0].Name, link.Peer, link.Import, link.Export, again.Routers[0].Statics[0].Via} {
		if at := uintptr(unsafe.Pointer(unsafe.StringData(n))); at >= begin && at < begin+uintptr(len(s)) {
			t.Errorf("%q lies in the text", n)
		}
	}
	if s != wholeText {
		t.Error("the text is changed")
	}
}

// No two lists of an answer share memory, not even behind their ends.
func TestListsOfTheirOwn(t *testing.T) {
	s := "router a { net 10.0.0.0/8; link b cost 1; static 10.0.0.0/8 via b; }"
	c, err := parse.Config(strings.Repeat("map m { if any then; }", 3) + strings.Repeat(s, 3))
	if err != nil {
		t.Fatal(err)
	}
	want := told(c)
	for i := range 3 {
		_ = append(c.Maps[i].Clauses, api.Clause{Pref: 1})
		_ = append(c.Routers[i].Nets, tiny)
		_ = append(c.Routers[i].Links, api.Link{Peer: "x"})
		_ = append(c.Routers[i].Statics, api.Static{Via: "x"})
	}
	if told(c) != want {
		t.Error(c)
	}
}

func TestManyAtOnce(t *testing.T) {
	c, err := parse.Config(wholeText)
	if err != nil {
		t.Fatal(err)
	}
	want := told(c)
	var all sync.WaitGroup
	for range 8 {
		all.Go(func() {
			for range 200 {
				c, err := parse.Config(wholeText)
				_, wrong := parse.Config(wholeText + ";")
				if err != nil || told(c) != want || api.Place(wrong) != len(wholeText) {
					t.Error(c, err, wrong)
					return
				}
			}
		})
	}
	all.Wait()
}
