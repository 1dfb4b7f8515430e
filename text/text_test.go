package text_test

import (
	"fmt"
	"math"
	"math/rand"
	"net/netip"
	"reflect"
	"slices"
	"strings"
	"sync"
	"testing"

	"maquette/api"
	"maquette/text"
	"maquette/token"
)

// of is the prefix of a text that has one.
func of(s string) api.Prefix {
	p := netip.MustParsePrefix(s)
	a := p.Addr().As4()
	return api.Prefix{Addr: uint32(a[0])<<24 | uint32(a[1])<<16 | uint32(a[2])<<8 | uint32(a[3]), Bits: p.Bits()}
}

// prefixWords is a prefix's text, told in another way than the program does: empty of what has bits behind its own, or no right number of bits.
func prefixWords(p api.Prefix) string {
	if p.Bits < 0 || p.Bits > 32 {
		return ""
	}
	n := netip.PrefixFrom(netip.AddrFrom4([4]byte{byte(p.Addr >> 24), byte(p.Addr >> 16), byte(p.Addr >> 8), byte(p.Addr)}), p.Bits)
	if n != n.Masked() {
		return ""
	}
	return n.String()
}

// tagWords is the words of tags, told in another way than the program does: by a list of all sixteen.
func tagWords(word string, bits uint8) []string {
	all := [16]string{"", "0", "1", "0 1", "2", "0 2", "1 2", "0 1 2", "3", "0 3", "1 3", "0 1 3", "2 3", "0 2 3", "1 2 3", "0 1 2 3"}
	if bits%16 == 0 {
		return nil
	}
	return []string{word, all[bits%16]}
}

// clauseLine is a clause's line, told in another way than the program does: by words that blanks stand between.
func clauseLine(c api.Clause) string {
	words := []string{"if"}
	if c.Any {
		words = append(words, "any")
	} else {
		words = append(words, prefixWords(c.Prefix))
	}
	words = append(words, tagWords("with", c.With)...)
	words = append(words, tagWords("out", c.Out)...)
	words = append(words, "then")
	if c.Drop {
		words = append(words, "drop")
	}
	words = append(words, tagWords("set", c.Set)...)
	words = append(words, tagWords("clear", c.Clear)...)
	if c.More != 0 {
		words = append(words, "more", fmt.Sprint(c.More))
	}
	if c.Pref != 0 {
		words = append(words, "pref", fmt.Sprint(c.Pref))
	}
	return "\t" + strings.Join(words, " ") + ";\n"
}

// configText is a configuration's text, told in another way than the program does.
func configText(c api.Config) string {
	var lines []string
	for _, m := range c.Maps {
		lines = append(lines, fmt.Sprintf("map %s {\n", m.Name))
		for _, k := range m.Clauses {
			lines = append(lines, clauseLine(k))
		}
		lines = append(lines, "}\n")
	}
	for _, r := range c.Routers {
		lines = append(lines, fmt.Sprintf("router %s {\n", r.Name))
		for _, n := range r.Nets {
			lines = append(lines, fmt.Sprintf("\tnet %s;\n", prefixWords(n)))
		}
		for _, l := range r.Links {
			maps := ""
			if l.Import != "" {
				maps = " import " + l.Import
			}
			if l.Export != "" {
				maps += " export " + l.Export
			}
			lines = append(lines, fmt.Sprintf("\tlink %s cost %d%s;\n", l.Peer, l.Cost, maps))
		}
		for _, s := range r.Statics {
			lines = append(lines, fmt.Sprintf("\tstatic %s via %s;\n", prefixWords(s.Prefix), s.Via))
		}
		lines = append(lines, "}\n")
	}
	return strings.Join(lines, "")
}

func wantClause(t *testing.T, c api.Clause, want string) {
	t.Helper()
	if got := text.Clause(c); got != want {
		t.Errorf("%+v: %q; want %q", c, got, want)
	}
}

func wantConfig(t *testing.T, c api.Config, want string) {
	t.Helper()
	if got := text.Config(c); got != want {
		t.Errorf("%+v:\n%q; want\n%q", c, got, want)
	}
}

// P7.1: a clause's line.

func TestClauseExample(t *testing.T) {
	c := api.Clause{Any: true, With: 5, Drop: true}
	wantClause(t, c, "\tif any with 0 2 then drop;\n")
}

func TestClauseIsALineWithinAMap(t *testing.T) {
	for _, c := range []api.Clause{{}, {Any: true}, {Any: true, Drop: true}, {Prefix: of("10.0.0.0/8"), With: 1, Pref: 3}} {
		s := text.Clause(c)
		if !strings.HasPrefix(s, "\tif ") || !strings.HasSuffix(s, ";\n") {
			t.Errorf("%+v: %q", c, s)
		}
		if strings.Count(s, "\t") != 1 || strings.Count(s, "\n") != 1 || strings.Count(s, ";") != 1 {
			t.Errorf("%+v: more than a line: %q", c, s)
		}
	}
}

func TestClauseOrdinary(t *testing.T) {
	whole := api.Clause{Prefix: of("10.1.0.0/16"), With: 1, Out: 6, Drop: true, Set: 8, Clear: 3, More: 4, Pref: 200}
	wantClause(t, whole, "\tif 10.1.0.0/16 with 0 out 1 2 then drop set 3 clear 0 1 more 4 pref 200;\n")
	wantClause(t, api.Clause{Any: true}, "\tif any then;\n")
	wantClause(t, api.Clause{}, "\tif 0.0.0.0/0 then;\n")
	wantClause(t, api.Clause{Prefix: of("10.1.2.3/32")}, "\tif 10.1.2.3/32 then;\n")
	wantClause(t, api.Clause{Any: true, Drop: true}, "\tif any then drop;\n")
}

func TestClauseAnyHidesThePrefix(t *testing.T) {
	for _, p := range []api.Prefix{{}, of("10.0.0.0/8"), {Addr: 1, Bits: 8}, {Bits: 33}} {
		wantClause(t, api.Clause{Any: true, Prefix: p}, "\tif any then;\n")
	}
}

func TestClauseOnePartEach(t *testing.T) {
	for _, one := range []struct {
		c    api.Clause
		want string
	}{
		{api.Clause{Any: true, With: 2}, "\tif any with 1 then;\n"},
		{api.Clause{Any: true, Out: 4}, "\tif any out 2 then;\n"},
		{api.Clause{Any: true, Set: 1}, "\tif any then set 0;\n"},
		{api.Clause{Any: true, Clear: 8}, "\tif any then clear 3;\n"},
		{api.Clause{Any: true, More: 1}, "\tif any then more 1;\n"},
		{api.Clause{Any: true, More: api.MaxMore}, "\tif any then more 15;\n"},
		{api.Clause{Any: true, Pref: 1}, "\tif any then pref 1;\n"},
		{api.Clause{Any: true, Pref: api.Pref}, "\tif any then pref 100;\n"},
		{api.Clause{Any: true, Pref: api.MaxPref}, "\tif any then pref 255;\n"},
	} {
		wantClause(t, one.c, one.want)
	}
}

func TestClauseEveryTag(t *testing.T) {
	all := api.Clause{Any: true, With: 15, Out: 15, Set: 15, Clear: 15}
	wantClause(t, all, "\tif any with 0 1 2 3 out 0 1 2 3 then set 0 1 2 3 clear 0 1 2 3;\n")
}

func TestClauseBitsAboveTheLowestFour(t *testing.T) {
	above := api.Clause{Any: true, With: 16, Out: 32, Set: 64, Clear: 240}
	wantClause(t, above, "\tif any then;\n")
	both := api.Clause{Any: true, With: 17, Out: 255, Set: 72, Clear: 130}
	wantClause(t, both, "\tif any with 0 out 0 1 2 3 then set 3 clear 1;\n")
}

func TestClauseAllTags(t *testing.T) {
	for i := range 256 {
		b := uint8(i)
		for _, c := range []api.Clause{{With: b}, {Out: b}, {Set: b}, {Clear: b}, {Any: true, With: b, Out: ^b, Set: b>>4 | b<<4, Clear: b ^ 10}} {
			wantClause(t, c, clauseLine(c))
		}
	}
}

func TestClauseNumbersThatMayNotBe(t *testing.T) {
	wantClause(t, api.Clause{Any: true, More: -1, Pref: -255}, "\tif any then more -1 pref -255;\n")
	wantClause(t, api.Clause{Any: true, More: 16, Pref: 256}, "\tif any then more 16 pref 256;\n")
	far := api.Clause{Any: true, More: math.MaxInt, Pref: math.MinInt}
	wantClause(t, far, "\tif any then more 9223372036854775807 pref -9223372036854775808;\n")
}

func TestClausePrefixesThatMayNotBe(t *testing.T) {
	for _, p := range []api.Prefix{{Addr: 10<<24 + 1, Bits: 8}, {Bits: -1}, {Bits: 33}, {Addr: 1}, {Addr: math.MaxUint32, Bits: math.MinInt}, {Bits: math.MaxInt}} {
		wantClause(t, api.Clause{Prefix: p, Drop: true}, "\tif  then drop;\n")
	}
}

// every is some clauses of each kind: each part there, and not.
func every() []api.Clause {
	var all []api.Clause
	for i := range 1 << 8 {
		c := api.Clause{Any: i&1 > 0, Prefix: of("172.16.0.0/12"), Drop: i&2 > 0}
		if i&4 > 0 {
			c.With = 9
		}
		if i&8 > 0 {
			c.Out = 6
		}
		if i&16 > 0 {
			c.Set = 3
		}
		if i&32 > 0 {
			c.Clear = 12
		}
		if i&64 > 0 {
			c.More = 7
		}
		if i&128 > 0 {
			c.Pref = 101
		}
		all = append(all, c)
	}
	return all
}

func TestClauseAllParts(t *testing.T) {
	seen := make(map[string]api.Clause)
	for _, c := range every() {
		wantClause(t, c, clauseLine(c))
		s := text.Clause(c)
		if other, ok := seen[s]; ok {
			t.Errorf("%+v and %+v are both %q", c, other, s)
		}
		seen[s] = c
	}
}

func TestClauseCanBeCut(t *testing.T) {
	for _, c := range every() {
		s := text.Clause(c)
		ts, err := token.Cut(s)
		if err != nil || ts[0].Text != "if" || ts[len(ts)-2].Text != ";" {
			t.Errorf("%q: %v, %v", s, ts, err)
		}
	}
}

// P7.2: a configuration's text.

func TestConfigWithoutAnything(t *testing.T) {
	wantConfig(t, api.Config{}, "")
	wantConfig(t, api.Config{Maps: []api.Map{}, Routers: []api.Router{}}, "")
}

// ordinary is a configuration with all things that there are.
func ordinary() api.Config {
	return api.Config{
		Maps: []api.Map{
			{Name: "m", Clauses: []api.Clause{
				{Prefix: of("10.0.0.0/8"), With: 1, Out: 6, Set: 8, Clear: 3, More: 4, Pref: 200},
				{Any: true, Drop: true},
			}, At: 1},
			{Name: "k", Clauses: []api.Clause{{Any: true, Pref: 7}}, At: 2},
		},
		Routers: []api.Router{
			{
				Name: "z",
				Nets: []api.Prefix{of("10.1.0.0/16"), of("10.0.0.0/8")},
				Links: []api.Link{
					{Peer: "b", Cost: 5, Import: "m", Export: "k", At: 3},
					{Peer: "a", Cost: 1000, Import: "k", At: 4},
					{Peer: "c", Cost: 1, Export: "m", At: 5},
					{Peer: "d", Cost: 2, At: 6},
				},
				Statics: []api.Static{{Prefix: of("10.2.0.0/16"), Via: "c", At: 7}, {Via: "b", At: 8}},
				At:      9,
			},
			{Name: "b", Links: []api.Link{{Peer: "z", Cost: 5, At: 10}}, At: 11},
		},
	}
}

const ordinaryText = `map m {
	if 10.0.0.0/8 with 0 out 1 2 then set 3 clear 0 1 more 4 pref 200;
	if any then drop;
}
map k {
	if any then pref 7;
}
router z {
	net 10.1.0.0/16;
	net 10.0.0.0/8;
	link b cost 5 import m export k;
	link a cost 1000 import k;
	link c cost 1 export m;
	link d cost 2;
	static 10.2.0.0/16 via c;
	static 0.0.0.0/0 via b;
}
router b {
	link z cost 5;
}
`

func TestConfigOrdinary(t *testing.T) {
	wantConfig(t, ordinary(), ordinaryText)
}

func TestConfigMapsWithoutClauses(t *testing.T) {
	wantConfig(t, api.Config{Maps: []api.Map{{Name: "m"}}}, "map m {\n}\n")
	wantConfig(t, api.Config{Maps: []api.Map{{Name: "m", Clauses: []api.Clause{}}, {Name: "n"}}}, "map m {\n}\nmap n {\n}\n")
}

func TestConfigRoutersWithout(t *testing.T) {
	n, l, s := []api.Prefix{{}}, []api.Link{{Peer: "b", Cost: 3}}, []api.Static{{Via: "b"}}
	for _, one := range []struct {
		r    api.Router
		want string
	}{
		{api.Router{Name: "a"}, ""},
		{api.Router{Name: "a", Nets: []api.Prefix{}, Links: []api.Link{}, Statics: []api.Static{}}, ""},
		{api.Router{Name: "a", Nets: n}, "\tnet 0.0.0.0/0;\n"},
		{api.Router{Name: "a", Links: l}, "\tlink b cost 3;\n"},
		{api.Router{Name: "a", Statics: s}, "\tstatic 0.0.0.0/0 via b;\n"},
		{api.Router{Name: "a", Links: l, Statics: s}, "\tlink b cost 3;\n\tstatic 0.0.0.0/0 via b;\n"},
		{api.Router{Name: "a", Nets: n, Statics: s}, "\tnet 0.0.0.0/0;\n\tstatic 0.0.0.0/0 via b;\n"},
		{api.Router{Name: "a", Nets: n, Links: l}, "\tnet 0.0.0.0/0;\n\tlink b cost 3;\n"},
	} {
		wantConfig(t, api.Config{Routers: []api.Router{one.r}}, "router a {\n"+one.want+"}\n")
	}
}

func TestConfigMapsStandAheadOfRouters(t *testing.T) {
	c := api.Config{Routers: []api.Router{{Name: "a", At: 1}}, Maps: []api.Map{{Name: "m", At: 2}}}
	wantConfig(t, c, "map m {\n}\nrouter a {\n}\n")
}

func TestConfigKeepsTheOrderOfLists(t *testing.T) {
	c := ordinary()
	slices.Reverse(c.Maps)
	slices.Reverse(c.Routers)
	slices.Reverse(c.Maps[1].Clauses)
	slices.Reverse(c.Routers[1].Nets)
	slices.Reverse(c.Routers[1].Links)
	slices.Reverse(c.Routers[1].Statics)
	wantConfig(t, c, configText(c))
	if text.Config(c) == ordinaryText {
		t.Error("the other way round it is the same")
	}
}

func TestConfigKeepsWhatIsThereTwice(t *testing.T) {
	m, r := api.Map{Name: "m"}, api.Router{Name: "a", Nets: []api.Prefix{{}, {}}}
	c := api.Config{Maps: []api.Map{m, m}, Routers: []api.Router{r, r}}
	router := "router a {\n\tnet 0.0.0.0/0;\n\tnet 0.0.0.0/0;\n}\n"
	wantConfig(t, c, "map m {\n}\nmap m {\n}\n"+router+router)
}

// linked is a configuration of one router with one link.
func linked(l api.Link) api.Config {
	return api.Config{Routers: []api.Router{{Name: "a", Links: []api.Link{l}}}}
}

func TestConfigCosts(t *testing.T) {
	for cost, want := range map[int]string{0: "0", 1: "1", 1000: "1000", 1001: "1001", -5: "-5", math.MinInt: "-9223372036854775808"} {
		wantConfig(t, linked(api.Link{Peer: "b", Cost: cost}), "router a {\n\tlink b cost "+want+";\n}\n")
	}
}

func TestConfigEmptyNames(t *testing.T) {
	wantConfig(t, linked(api.Link{}), "router a {\n\tlink  cost 0;\n}\n")
	c := api.Config{Maps: []api.Map{{}}, Routers: []api.Router{{Statics: []api.Static{{}}}}}
	wantConfig(t, c, "map  {\n}\nrouter  {\n\tstatic 0.0.0.0/0 via ;\n}\n")
}

func TestConfigNamesThatMayNotBe(t *testing.T) {
	long := strings.Repeat("x", 1000)
	for _, s := range []string{"A", " ", "\n", "}", "\x00", "\xff\xfe", "any", "map", "%d", long} {
		c := api.Config{
			Maps:    []api.Map{{Name: s}},
			Routers: []api.Router{{Name: s, Links: []api.Link{{Peer: s, Import: s, Export: s}}, Statics: []api.Static{{Via: s}}}},
		}
		wantConfig(t, c, "map "+s+" {\n}\nrouter "+s+" {\n\tlink "+s+" cost 0 import "+s+" export "+s+";\n\tstatic 0.0.0.0/0 via "+s+";\n}\n")
	}
}

func TestConfigPrefixesThatMayNotBe(t *testing.T) {
	no := api.Prefix{Addr: 1, Bits: 31}
	c := api.Config{
		Maps:    []api.Map{{Name: "m", Clauses: []api.Clause{{Prefix: no}}}},
		Routers: []api.Router{{Name: "a", Nets: []api.Prefix{no}, Statics: []api.Static{{Prefix: no, Via: "b"}}}},
	}
	wantConfig(t, c, "map m {\n\tif  then;\n}\nrouter a {\n\tnet ;\n\tstatic  via b;\n}\n")
}

func TestConfigHasClausesLines(t *testing.T) {
	c := api.Config{Maps: []api.Map{{Name: "m", Clauses: every()}}}
	want := "map m {\n"
	for _, k := range every() {
		want += text.Clause(k)
	}
	wantConfig(t, c, want+"}\n")
}

func TestConfigBeyondTheLimits(t *testing.T) {
	var c api.Config
	for i := range 500 {
		name := fmt.Sprintf("n%d", i)
		c.Maps = append(c.Maps, api.Map{Name: name, Clauses: every()[:20]})
		r := api.Router{Name: name, Nets: make([]api.Prefix, 20), Links: make([]api.Link, 80), Statics: make([]api.Static, 20)}
		c.Routers = append(c.Routers, r)
	}
	got := text.Config(c)
	if len(got) <= api.MaxText || got != configText(c) {
		t.Errorf("%d bytes; want %d", len(got), len(configText(c)))
	}
}

// some is a list of up to three things.
func some[T any](r *rand.Rand, one func() T) []T {
	var list []T
	for range r.Intn(4) {
		list = append(list, one())
	}
	return list
}

// anyConfig is some configuration, right or not, by numbers that are the same each time.
func anyConfig(r *rand.Rand) api.Config {
	name := func() string {
		return []string{"", "a", "b-1", "any", "X y", "}\n", strings.Repeat("q", 17)}[r.Intn(7)]
	}
	number := func() int {
		return []int{0, 0, 1, 3, 15, 16, 255, 1000, -1, math.MaxInt}[r.Intn(10)]
	}
	prefix := func() api.Prefix {
		p := api.Prefix{Addr: r.Uint32(), Bits: r.Intn(35) - 1}
		if p.Bits >= 0 && r.Intn(4) > 0 {
			p.Addr = uint32(uint64(p.Addr) & (math.MaxUint64 << max(0, 32-p.Bits)))
		}
		return p
	}
	bits := func() uint8 { return uint8(r.Intn(256)) }
	clause := func() api.Clause {
		return api.Clause{Any: r.Intn(2) > 0, Prefix: prefix(), With: bits(), Out: bits(), Drop: r.Intn(2) > 0, Set: bits(), Clear: bits(), More: number(), Pref: number()}
	}
	return api.Config{
		Maps: some(r, func() api.Map { return api.Map{Name: name(), Clauses: some(r, clause), At: number()} }),
		Routers: some(r, func() api.Router {
			return api.Router{
				Name: name(),
				Nets: some(r, prefix),
				Links: some(r, func() api.Link {
					return api.Link{Peer: name(), Cost: number(), Import: name(), Export: name(), At: number()}
				}),
				Statics: some(r, func() api.Static { return api.Static{Prefix: prefix(), Via: name(), At: number()} }),
				At:      number(),
			}
		}),
	}
}

func TestConfigAgainstAnotherWay(t *testing.T) {
	r := rand.New(rand.NewSource(7))
	for range 3000 {
		c := anyConfig(r)
		wantConfig(t, c, configText(c))
	}
}

// P7.2: whether two have the same text.

func wantSame(t *testing.T, a, b api.Config, want bool) {
	t.Helper()
	if text.Same(a, b) != want || text.Same(b, a) != want {
		t.Errorf("%q, %q: not %v", text.Config(a), text.Config(b), want)
	}
}

func TestSameOfItself(t *testing.T) {
	wantSame(t, api.Config{}, api.Config{}, true)
	wantSame(t, ordinary(), ordinary(), true)
}

func TestSameWhateverThePlaces(t *testing.T) {
	c := ordinary()
	c.Maps[0].At, c.Routers[0].At, c.Routers[0].Links[1].At, c.Routers[0].Statics[0].At = 90, 91, 92, -93
	wantSame(t, ordinary(), c, true)
}

func TestSameWhateverNoTextHas(t *testing.T) {
	a, b := ordinary(), ordinary()
	a.Maps[0].Clauses[1].Prefix = of("10.0.0.0/8")
	b.Maps[0].Clauses[0].Out |= 0xf0
	b.Routers[1].Nets, b.Routers[1].Statics = []api.Prefix{}, []api.Static{}
	wantSame(t, a, b, true)
	wantSame(t, api.Config{}, api.Config{Maps: []api.Map{}, Routers: []api.Router{}}, true)
	a.Routers[0].Nets[0], b.Routers[0].Nets[0] = api.Prefix{Bits: 33}, api.Prefix{Addr: 1}
	wantSame(t, a, b, true)
}

func TestSameTextOfOtherThings(t *testing.T) {
	one := api.Config{Maps: []api.Map{{Name: "m {\n}\nmap n"}}}
	two := api.Config{Maps: []api.Map{{Name: "m"}, {Name: "n"}}}
	wantSame(t, one, two, true)
	in := linked(api.Link{Peer: "b", Cost: 1, Import: "m export n"})
	out := linked(api.Link{Peer: "b", Cost: 1, Import: "m", Export: "n"})
	wantSame(t, in, out, true)
}

func TestSameNotWhereATextDiffers(t *testing.T) {
	for i, change := range []func(c *api.Config){
		func(c *api.Config) { *c = api.Config{} },
		func(c *api.Config) { c.Maps = nil },
		func(c *api.Config) { c.Routers = c.Routers[:1] },
		func(c *api.Config) { slices.Reverse(c.Maps) },
		func(c *api.Config) { slices.Reverse(c.Routers) },
		func(c *api.Config) { c.Maps[0].Name = "n" },
		func(c *api.Config) { slices.Reverse(c.Maps[0].Clauses) },
		func(c *api.Config) { c.Maps[0].Clauses[0].Any = true },
		func(c *api.Config) { c.Maps[0].Clauses[0].Prefix.Bits = 9 },
		func(c *api.Config) { c.Maps[0].Clauses[0].With = 2 },
		func(c *api.Config) { c.Maps[0].Clauses[0].Out = 14 },
		func(c *api.Config) { c.Maps[0].Clauses[0].Drop = true },
		func(c *api.Config) { c.Maps[0].Clauses[0].Set = 0 },
		func(c *api.Config) { c.Maps[0].Clauses[0].Clear = 2 },
		func(c *api.Config) { c.Maps[0].Clauses[0].More = 5 },
		func(c *api.Config) { c.Maps[0].Clauses[0].Pref = 0 },
		func(c *api.Config) { c.Routers[0].Name = "y" },
		func(c *api.Config) { c.Routers[0].Nets[1].Addr = 11 << 24 },
		func(c *api.Config) { slices.Reverse(c.Routers[0].Nets) },
		func(c *api.Config) { c.Routers[0].Links[0].Peer = "a" },
		func(c *api.Config) { c.Routers[0].Links[0].Cost = 6 },
		func(c *api.Config) { c.Routers[0].Links[1].Import = "" },
		func(c *api.Config) { c.Routers[0].Links[2].Export = "k" },
		func(c *api.Config) {
			l := &c.Routers[0].Links[0]
			l.Import, l.Export = l.Export, l.Import
		},
		func(c *api.Config) { c.Routers[0].Statics[0].Via = "d" },
		func(c *api.Config) { c.Routers[0].Statics[1].Prefix.Bits = 1 },
	} {
		c := ordinary()
		change(&c)
		if text.Same(ordinary(), c) || text.Same(c, ordinary()) {
			t.Errorf("change %d: the same", i)
		}
	}
}

func TestSameIsOfTexts(t *testing.T) {
	r := rand.New(rand.NewSource(8))
	last := api.Config{}
	for range 1000 {
		c := anyConfig(r)
		wantSame(t, c, c, true)
		wantSame(t, c, last, configText(c) == configText(last))
		last = c
	}
}

// W2, W6: nothing is changed, and the same is answered each time, whoever asks at the same time.

func TestNothingIsChanged(t *testing.T) {
	r := rand.New(rand.NewSource(9))
	for range 200 {
		seed := r.Int63()
		c, kept := anyConfig(rand.New(rand.NewSource(seed))), anyConfig(rand.New(rand.NewSource(seed)))
		text.Config(c)
		text.Same(c, kept)
		if !reflect.DeepEqual(c, kept) {
			t.Fatalf("%+v became %+v", kept, c)
		}
	}
}

func TestManyAtOnce(t *testing.T) {
	c := ordinary()
	var all sync.WaitGroup
	for range 8 {
		all.Go(func() {
			for range 50 {
				if text.Config(c) != ordinaryText || !text.Same(c, c) {
					t.Error("another text")
					return
				}
			}
		})
	}
	all.Wait()
}
