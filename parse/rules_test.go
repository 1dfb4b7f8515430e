package parse_test

import (
	"fmt"
	"math/rand"
	"slices"
	"strings"
	"testing"

	"maquette/api"
	"maquette/parse"
	"maquette/text"
	"maquette/token"
)

// The form of configurations, told in another way than the program does: by a rule, and what is left of it behind each token. No rule (nil) is left, where a token can't stand.
type rule interface {
	mayEnd() bool
	behind(t token.Token) rule
}

// nothing is the rule of no token.
type nothing struct{}

func (nothing) mayEnd() bool { return true }

func (nothing) behind(token.Token) rule { return nil }

// one is the rule of one token.
type one func(t token.Token) bool

func (one) mayEnd() bool { return false }

func (o one) behind(t token.Token) rule {
	if o(t) {
		return nothing{}
	}
	return nil
}

// pair is one rule behind the other.
type pair struct{ first, last rule }

func (p pair) mayEnd() bool { return p.first.mayEnd() && p.last.mayEnd() }

func (p pair) behind(t token.Token) rule {
	var left rule
	if r := p.first.behind(t); r != nil {
		left = pair{r, p.last}
		if r == rule(nothing{}) {
			left = p.last
		}
	}
	if p.first.mayEnd() {
		left = either(left, p.last.behind(t))
	}
	return left
}

// choice is one rule or the other.
type choice struct{ a, b rule }

func (c choice) mayEnd() bool { return c.a.mayEnd() || c.b.mayEnd() }

func (c choice) behind(t token.Token) rule { return either(c.a.behind(t), c.b.behind(t)) }

// either is a choice of two rules, of which each may be none.
func either(a, b rule) rule {
	if a == nil {
		return b
	}
	if b == nil {
		return a
	}
	return choice{a, b}
}

// times is a rule at most so many times.
type times struct {
	most int
	of   rule
}

func (times) mayEnd() bool { return true }

func (n times) behind(t token.Token) rule {
	if n.most == 0 {
		return nil
	}
	r := n.of.behind(t)
	if r == nil {
		return nil
	}
	return pair{r, times{n.most - 1, n.of}}
}

func row(rules ...rule) rule {
	all := rule(nothing{})
	for _, r := range slices.Backward(rules) {
		all = pair{r, all}
	}
	return all
}

func maybe(rules ...rule) rule { return choice{row(rules...), nothing{}} }

func sign(s string) rule { return one(func(t token.Token) bool { return t.Text == s }) }

func kind(k token.Kind) rule { return one(func(t token.Token) bool { return t.Kind == k }) }

func anything() rule { return one(func(token.Token) bool { return true }) }

func number(least, most int) rule {
	return one(func(t token.Token) bool { return t.Kind == token.Number && t.Value >= least && t.Value <= most })
}

// loose tells what a rule leaves out: how many may be, how great numbers may be, that tags rise.
type loose struct{ counts, ranges, order bool }

const endless = 1 << 30

func (l loose) number(least, most int) rule {
	if l.ranges {
		return kind(token.Number)
	}
	return number(least, most)
}

func (l loose) times(most int, rules ...rule) rule {
	if l.counts {
		most = endless
	}
	return times{most, row(rules...)}
}

// rising is one tag or more from a least one on.
func rising(least int) rule {
	if least == 4 {
		return one(func(token.Token) bool { return false })
	}
	return choice{row(number(least, least), maybe(rising(least+1))), rising(least + 1)}
}

func (l loose) tags(word string) rule {
	if l.ranges || l.order {
		return maybe(sign(word), l.number(0, 3), times{endless, l.number(0, 3)})
	}
	return maybe(sign(word), rising(0))
}

func (l loose) clause() rule {
	return row(sign("if"), choice{sign("any"), kind(token.Net)}, l.tags("with"), l.tags("out"), sign("then"), maybe(sign("drop")),
		l.tags("set"), l.tags("clear"), maybe(sign("more"), l.number(1, 15)), maybe(sign("pref"), l.number(1, 255)), sign(";"))
}

func (l loose) oneMap() rule {
	behind := sign("}")
	if l.counts {
		sixteen := rule(nothing{})
		for range 16 {
			sixteen = pair{l.clause(), sixteen}
		}
		return row(sign("map"), kind(token.Word), sign("{"), choice{row(times{16, l.clause()}, behind), row(sixteen, anything())})
	}
	return row(sign("map"), kind(token.Word), sign("{"), times{16, l.clause()}, behind)
}

func (l loose) router() rule {
	name := kind(token.Word)
	return row(sign("router"), name, sign("{"),
		l.times(8, sign("net"), kind(token.Net), sign(";")),
		l.times(64, sign("link"), name, sign("cost"), l.number(1, 1000), maybe(sign("import"), name), maybe(sign("export"), name), sign(";")),
		l.times(8, sign("static"), kind(token.Net), sign("via"), name, sign(";")),
		sign("}"))
}

func (l loose) config() rule {
	return row(l.times(64, l.oneMap()), l.times(64, l.router()), kind(token.End))
}

// rules is the whole rule, and others, each of which leaves out what one error tells.
var rules = [4]rule{loose{}.config(), loose{counts: true}.config(), loose{order: true}.config(), loose{order: true, ranges: true}.config()}

// byRules is what is wrong with a text, and where: 0 and -1, if nothing is.
func byRules(s string) (api.Errno, int) {
	tokens, err := token.Cut(s)
	if err != nil {
		return api.Number(err), api.Place(err)
	}
	left := rules
	errnos := [4]api.Errno{0, api.ErrLimit, api.ErrTwice, api.ErrRange}
	for _, t := range tokens {
		for i := range left {
			if left[i] != nil {
				left[i] = left[i].behind(t)
			}
		}
		if left[0] != nil {
			continue
		}
		for i := range left {
			if left[i] != nil {
				return errnos[i], t.At
			}
		}
		return api.ErrParse, t.At
	}
	if !left[0].mayEnd() {
		panic("no End")
	}
	return 0, -1
}

// piecesOf is the texts of a text's tokens, but the End.
func piecesOf(t *testing.T, s string) []string {
	t.Helper()
	tokens, err := token.Cut(s)
	if err != nil {
		t.Fatal(err)
	}
	var all []string
	for _, one := range tokens[:len(tokens)-1] {
		all = append(all, one.Text)
	}
	return all
}

// wantPlaces holds all that stands At a place of a text against the tokens there, which are as many behind the text's begin as the text (7) of what is ahead has.
func wantPlaces(t *testing.T, s string, c api.Config) {
	t.Helper()
	tokens, _ := token.Cut(s)
	want := func(at int, ahead api.Config, open int) {
		t.Helper()
		n := len(piecesOf(t, text.Config(ahead))) - open
		if at != tokens[n].At {
			t.Errorf("%s: at %d; want %d", short(s), at, tokens[n].At)
		}
	}
	for i, m := range c.Maps {
		want(m.At, api.Config{Maps: c.Maps[:i]}, 0)
	}
	for i, r := range c.Routers {
		want(r.At, api.Config{Maps: c.Maps, Routers: c.Routers[:i]}, 0)
		part := func(links, statics int) api.Config {
			one := api.Router{Name: r.Name, Nets: r.Nets, Links: r.Links[:links], Statics: r.Statics[:statics]}
			return api.Config{Maps: c.Maps, Routers: append(slices.Clone(c.Routers[:i]), one)}
		}
		for k, l := range r.Links {
			want(l.At, part(k, 0), 1)
		}
		for k, w := range r.Statics {
			want(w.At, part(len(r.Links), k), 1)
		}
	}
}

// wantByRules holds what a text is read as against the rules, and tells what they say of it. What is read has the text's own tokens as its text (7), and its places.
func wantByRules(t *testing.T, s string) api.Errno {
	t.Helper()
	no, at := byRules(s)
	if no != 0 {
		wantFault(t, s, no, at)
		return no
	}
	c, err := parse.Config(s)
	if err != nil {
		t.Errorf("%s: %v", short(s), err)
		return 0
	}
	if !slices.Equal(piecesOf(t, text.Config(c)), piecesOf(t, s)) {
		t.Errorf("%s: read as %s", short(s), short(text.Config(c)))
	}
	wantPlaces(t, s, c)
	return 0
}

// wantEach tells of errors that too few texts have had, 0 standing for right texts.
func wantEach(t *testing.T, seen map[api.Errno]int, least int, of ...api.Errno) {
	t.Helper()
	for _, no := range of {
		if seen[no] < least {
			t.Errorf("%v: %d texts alone, of %v", no, seen[no], seen)
		}
	}
}

// alphabet is tokens of each kind, and all that stand in quotes.
func alphabet() []string {
	return append([]string{"m", "0", "1", "2", "3", "4", "15", "16", "255", "256", "1000", "1001", "10.0.0.0/8", "{", "}", ";"}, words...)
}

// Each token of some texts left out, there twice, changed with the next one, and each other one in its place, ahead of it, and at the end.
func TestEachChangeByRules(t *testing.T) {
	seen := map[api.Errno]int{}
	for _, s := range []string{
		wholeText,
		"",
		"map m { if any then; if 10.0.0.0/8 with 1 then pref 2; } map n { }",
		"router a { link b cost 1; link c cost 2 export m; static 10.0.0.0/8 via b; static 10.0.0.0/8 via c; }",
		"map import { if any out 0 2 then clear 1 more 3; } router map { net 0.0.0.0/0; link export cost 7 export export; }",
	} {
		pieces := piecesOf(t, s)
		try := func(from, to int, put ...string) {
			seen[wantByRules(t, strings.Join(slices.Concat(pieces[:from], put, pieces[to:]), " "))]++
		}
		try(0, 0)
		for i, p := range pieces {
			try(i, i+1)
			try(i, i, p)
			try(i, len(pieces))
			if i+1 < len(pieces) {
				try(i, i+2, pieces[i+1], p)
			}
			for _, other := range alphabet() {
				try(i, i, other)
				try(i, i+1, other)
				try(i, len(pieces), other)
			}
		}
		for _, other := range alphabet() {
			try(len(pieces), len(pieces), other)
		}
	}
	wantEach(t, seen, 100, 0, api.ErrParse, api.ErrRange, api.ErrTwice)
}

// All texts of a few tokens within a clause, a link and others.
func TestSmallTextsByRules(t *testing.T) {
	seen := map[api.Errno]int{}
	for _, w := range []struct {
		ahead, behind string
		most          int
		pieces        []string
	}{
		{"", "", 3, alphabet()},
		{"map m { ", "", 3, []string{"if", "any", "10.0.0.0/8", "then", ";", "}", "m", "1"}},
		{"map m { if any ", " } ", 4, []string{"with", "out", "then", "0", "2", "3", "4", "drop", ";"}},
		{"map m { if any then ", " } ", 4, []string{"drop", "set", "clear", "more", "pref", "0", "1", "2", "16", "256", ";"}},
		{"router r { link b ", " }", 5, []string{"cost", "0", "5", "1001", "import", "export", "m", ";"}},
		{"router r { ", " }", 4, []string{"net", "static", "10.0.0.0/8", "via", "b", ";", "}"}},
	} {
		var tryAll func(s string, most int)
		tryAll = func(s string, most int) {
			seen[wantByRules(t, w.ahead+s+w.behind)]++
			if most > 0 {
				for _, p := range w.pieces {
					tryAll(s+p+" ", most-1)
				}
			}
		}
		tryAll("", w.most)
	}
	wantEach(t, seen, 50, 0, api.ErrParse, api.ErrRange, api.ErrTwice)
}

// anyGap is what may stand between two tokens.
func anyGap(r *rand.Rand) string {
	return anyOf(r, " ", "\t", "\n", "  ", "#\n", " # } ;\n\t", "\n\n")
}

// anyLines is a configuration's lines in gaps of all kinds.
func anyLines(t *testing.T, r *rand.Rand, c api.Config) string {
	var s strings.Builder
	for _, p := range piecesOf(t, text.Config(c)) {
		if r.Intn(2) > 0 || !strings.Contains("{};", p) {
			s.WriteString(anyGap(r))
		}
		s.WriteString(p)
		if !strings.Contains("{};", p) {
			s.WriteString(anyGap(r))
		}
	}
	return s.String()
}

// Any configurations, in gaps of all kinds, right ones, and some with a few tokens changed.
func TestAnyTextsByRules(t *testing.T) {
	r := rand.New(rand.NewSource(9))
	seen := map[api.Errno]int{}
	for range 1000 {
		s := anyLines(t, r, anyConfig(r))
		seen[wantByRules(t, s)]++
		pieces := piecesOf(t, s)
		for range 1 + r.Intn(2) {
			i := r.Intn(len(pieces) + 1)
			k := min(len(pieces), i+r.Intn(4))
			pieces = slices.Concat(pieces[:i], []string{anyOf(r, alphabet()...)}, pieces[k:])
		}
		seen[wantByRules(t, strings.Join(pieces, anyGap(r)))]++
	}
	wantEach(t, seen, 10, 0, api.ErrParse, api.ErrRange)
}

// Texts of nearly as many things as may be, and some more.
func TestManyThingsByRules(t *testing.T) {
	r := rand.New(rand.NewSource(10))
	seen := map[api.Errno]int{}
	lines := func(line string, most int) string { return strings.Repeat(line, max(0, most-1+r.Intn(3))) }
	some := func(line string, most int) string { return strings.Repeat(line, r.Intn(most)) }
	for range 300 {
		s := ""
		for range []int{0, 1, 63, 64, 65}[r.Intn(5)] {
			s += "map m{" + some("if any then;", 2) + "}"
		}
		for range r.Intn(3) {
			s += "map m{" + lines("if any then;", 16) + anyOf(r, "}", "}", "", ";", "5", "if", "map")
		}
		for range []int{0, 1, 61, 62, 63}[r.Intn(5)] {
			s += "router r{" + some("net 10.0.0.0/8;", 2) + "}"
		}
		for range r.Intn(3) {
			s += "router r{" + lines("net 10.0.0.0/8;", 8) + lines("link b cost 1;", 64) + lines("static 10.0.0.0/8 via b;", 8) + anyOf(r, "}", "}", "", ";", "net", "link", "static")
		}
		s += anyOf(r, "", "", "", "map m { }", "router r { }")
		seen[wantByRules(t, s)]++
	}
	wantEach(t, seen, 20, 0, api.ErrParse, api.ErrLimit)
}

// W1: any bytes end in an answer, which is the rules'.
func TestAnyBytes(t *testing.T) {
	r := rand.New(rand.NewSource(11))
	seen := map[api.Errno]int{}
	for range 5000 {
		b := []byte(wholeText)
		for range 1 + r.Intn(3) {
			i := r.Intn(len(b) + 1)
			k := min(len(b), i+r.Intn(3))
			b = slices.Concat(b[:i], []byte(anyOf(r, "", " ", "\n", ";", "a", "0", "9", "#", "/", "\x00", "\xff", "=", fmt.Sprintf("%c", r.Intn(300)))), b[k:])
		}
		seen[wantByRules(t, string(b))]++
	}
	wantEach(t, seen, 50, 0, api.ErrLex, api.ErrParse)
}
