package prefix_test

import (
	"math"
	"net/netip"
	"slices"
	"strings"
	"testing"

	"maquette/api"
	"maquette/prefix"
)

// badBits are numbers of bits that no prefix has; some of them are of 0 to 32, if they are cut to fewer bits.
var badBits = []int{math.MinInt, math.MinInt32, -256, -33, -32, -1, 33, 63, 64, 256, 264, 1 << 32, 1<<32 + 8, math.MaxInt}

// of is a prefix by four bytes and its bits.
func of(a, b, c, d uint32, bits int) api.Prefix {
	return api.Prefix{Addr: a<<24 | b<<16 | c<<8 | d, Bits: bits}
}

// bit is the bit of an address with so many ahead of it.
func bit(addr uint32, ahead int) uint32 { return addr >> (31 - ahead) & 1 }

// isOne tells, bit by bit, whether it is a prefix.
func isOne(p api.Prefix) bool {
	if p.Bits < 0 || p.Bits > 32 {
		return false
	}
	for k := p.Bits; k < 32; k++ {
		if bit(p.Addr, k) != 0 {
			return false
		}
	}
	return true
}

// isIn tells, bit by bit, whether a prefix covers another one.
func isIn(p, of api.Prefix) bool {
	if !isOne(p) || !isOne(of) || p.Bits > of.Bits {
		return false
	}
	for k := range p.Bits {
		if bit(p.Addr, k) != bit(of.Addr, k) {
			return false
		}
	}
	return true
}

// addresses are some with one bit, with all but one, with the first ones, and mixed ones.
func addresses() []uint32 {
	all := []uint32{0, math.MaxUint32, 10 << 24, 10<<24 + 1<<16, 0x80000001, 0x7fffffff}
	for k := range 32 {
		all = append(all, 1<<k, ^uint32(1<<k), math.MaxUint32<<k)
	}
	seed := uint32(7)
	for range 30 {
		seed = seed*1664525 + 1013904223
		all = append(all, seed)
	}
	return all
}

// some are pairs of addresses and bits, of which many are prefixes, and many are not.
func some() []api.Prefix {
	var all []api.Prefix
	for _, addr := range addresses() {
		for bits := -1; bits <= 33; bits++ {
			all = append(all, api.Prefix{Addr: addr, Bits: bits})
			if bits >= 0 && bits < 32 {
				all = append(all, api.Prefix{Addr: addr &^ (math.MaxUint32 >> bits), Bits: bits})
			}
		}
	}
	return all
}

// P5.1: May

func TestMay(t *testing.T) {
	for _, p := range []api.Prefix{{}, of(10, 1, 0, 0, 16), of(10, 1, 0, 0, 32), of(128, 0, 0, 0, 1), of(255, 255, 255, 255, 32), of(255, 255, 255, 254, 31), of(0, 0, 0, 0, 32), of(192, 168, 128, 0, 17)} {
		if !prefix.May(p) {
			t.Errorf("%v may be", p)
		}
	}
	for _, p := range []api.Prefix{of(10, 1, 0, 0, 15), of(128, 0, 0, 0, 0), of(0, 0, 0, 1, 0), of(64, 0, 0, 0, 1), of(255, 255, 255, 255, 31), of(192, 168, 128, 0, 16), of(0, 0, 0, 0, -1), of(0, 0, 0, 0, 33)} {
		if prefix.May(p) {
			t.Errorf("%v may not be", p)
		}
	}
}

func TestMayBitByBit(t *testing.T) {
	yes := 0
	for _, p := range some() {
		if got := prefix.May(p); got != isOne(p) {
			t.Errorf("%v: %v", p, got)
		} else if got {
			yes++
		}
	}
	if yes < 1000 {
		t.Errorf("too few that may be: %d", yes)
	}
}

func TestMayOfWrongBits(t *testing.T) {
	for _, bits := range badBits {
		for _, addr := range addresses() {
			if p := (api.Prefix{Addr: addr, Bits: bits}); prefix.May(p) {
				t.Error(p)
			}
		}
	}
}

// P5.1: Covers

func TestCovers(t *testing.T) {
	ten := of(10, 0, 0, 0, 8)
	for _, w := range []struct {
		p, of api.Prefix
		want  bool
	}{
		{ten, ten, true},
		{ten, of(10, 1, 0, 0, 16), true},
		{of(10, 1, 0, 0, 16), ten, false},
		{ten, of(11, 0, 0, 0, 8), false},
		{ten, of(11, 0, 0, 0, 16), false},
		{ten, of(10, 255, 255, 255, 32), true},
		{ten, of(10, 0, 0, 0, 7), false},
		{ten, of(8, 0, 0, 0, 7), false},
		{ten, of(10, 0, 0, 0, 9), true},
		{api.Prefix{}, api.Prefix{}, true},
		{api.Prefix{}, of(255, 255, 255, 255, 32), true},
		{of(0, 0, 0, 0, 1), api.Prefix{}, false},
		{of(0, 0, 0, 0, 1), of(128, 0, 0, 0, 1), false},
		{of(128, 0, 0, 0, 1), of(128, 0, 0, 0, 32), true},
		{of(1, 2, 3, 4, 32), of(1, 2, 3, 4, 32), true},
		{of(1, 2, 3, 4, 32), of(1, 2, 3, 5, 32), false},
		{of(1, 2, 3, 4, 31), of(1, 2, 3, 5, 32), true},
		// What may not be covers nothing, and is covered by nothing, not even by itself.
		{of(0, 0, 0, 1, 0), of(10, 0, 0, 0, 8), false},
		{api.Prefix{}, of(10, 0, 0, 1, 8), false},
		{of(10, 0, 0, 1, 8), of(10, 0, 0, 1, 8), false},
		{of(10, 0, 0, 1, 8), of(10, 0, 0, 1, 32), false},
	} {
		if got := prefix.Covers(w.p, w.of); got != w.want {
			t.Errorf("%v, %v: %v", w.p, w.of, got)
		}
	}
}

func TestCoversBitByBit(t *testing.T) {
	all := some()
	yes := 0
	for k, p := range all {
		for j := k % 7; j < len(all); j += 7 {
			got := prefix.Covers(p, all[j])
			if got != isIn(p, all[j]) {
				t.Fatalf("%v, %v: %v", p, all[j], got)
			}
			if got {
				yes++
			}
		}
	}
	if yes < 1000 {
		t.Errorf("too few that cover: %d", yes)
	}
}

func TestCoversOfWrongBits(t *testing.T) {
	for _, bits := range badBits {
		wrong := api.Prefix{Bits: bits}
		for _, p := range []api.Prefix{{}, of(0, 0, 0, 0, 8), of(0, 0, 0, 0, 32), wrong} {
			if prefix.Covers(wrong, p) || prefix.Covers(p, wrong) {
				t.Error(p, wrong)
			}
		}
	}
}

// P5.1: Less

func TestLess(t *testing.T) {
	// Rising, also where some of them may not be; addresses have no sign.
	rising := []api.Prefix{
		{Addr: 0, Bits: math.MinInt}, {Addr: 0, Bits: -1}, {}, {Addr: 0, Bits: 1}, {Addr: 0, Bits: 32}, {Addr: 0, Bits: math.MaxInt},
		{Addr: 1, Bits: 0}, {Addr: 1, Bits: 32},
		of(10, 0, 0, 0, 7), of(10, 0, 0, 0, 8), of(10, 0, 0, 0, 9), of(10, 0, 0, 1, 0), of(10, 1, 0, 0, 16),
		of(127, 255, 255, 255, 32), of(128, 0, 0, 0, 1), of(255, 255, 255, 255, -5), of(255, 255, 255, 255, 32),
	}
	for i, a := range rising {
		for j, b := range rising {
			if got := prefix.Less(a, b); got != (i < j) {
				t.Errorf("%v, %v: %v", a, b, got)
			}
		}
	}
}

// P5.2: Text

func TestText(t *testing.T) {
	for _, w := range []struct {
		p    api.Prefix
		want string
	}{
		{api.Prefix{Addr: 10<<24 + 1<<16, Bits: 16}, "10.1.0.0/16"},
		{api.Prefix{}, "0.0.0.0/0"},
		{of(0, 0, 0, 0, 32), "0.0.0.0/32"},
		{of(255, 255, 255, 255, 32), "255.255.255.255/32"},
		{of(1, 2, 3, 4, 32), "1.2.3.4/32"},
		{of(1, 2, 3, 4, 30), "1.2.3.4/30"},
		{of(192, 168, 128, 0, 17), "192.168.128.0/17"},
		{of(128, 0, 0, 0, 1), "128.0.0.0/1"},
		{of(100, 10, 9, 99, 32), "100.10.9.99/32"},
		{of(10, 0, 0, 1, 8), ""},
		{of(0, 0, 0, 1, 0), ""},
		{of(1, 2, 3, 4, 29), ""},
		{of(0, 0, 0, 0, 33), ""},
		{of(0, 0, 0, 0, -1), ""},
	} {
		if got := prefix.Text(w.p); got != w.want {
			t.Errorf("%v: %q; want %q", w.p, got, w.want)
		}
	}
}

func TestTextOfWrongBits(t *testing.T) {
	for _, bits := range badBits {
		for _, addr := range addresses() {
			if got := prefix.Text(api.Prefix{Addr: addr, Bits: bits}); got != "" {
				t.Errorf("%d/%d: %q", addr, bits, got)
			}
		}
	}
}

// Each prefix has a text of its own, which is read as the same one again.
func TestTextAndBack(t *testing.T) {
	texts := map[string]api.Prefix{}
	for _, p := range some() {
		s := prefix.Text(p)
		if !isOne(p) {
			if s != "" {
				t.Errorf("%v: %q", p, s)
			}
			continue
		}
		if other, ok := texts[s]; ok && other != p {
			t.Errorf("%v and %v: %q", p, other, s)
		}
		texts[s] = p
		if q, ok := prefix.Parse(s); q != p || !ok {
			t.Errorf("%q: %v, %v; want %v", s, q, ok, p)
		}
	}
}

// P5.2: Parse

// readAs is the prefix that the library's own reader has for a text that it would write so.
func readAs(s string) (api.Prefix, bool) {
	n, err := netip.ParsePrefix(s)
	if err != nil || !n.Addr().Is4() || n.Masked() != n || n.String() != s {
		return api.Prefix{}, false
	}
	b := n.Addr().As4()
	return of(uint32(b[0]), uint32(b[1]), uint32(b[2]), uint32(b[3]), n.Bits()), true
}

// wantNone holds Parse of a text against a zero one and false.
func wantNone(t *testing.T, s string) {
	t.Helper()
	if p, ok := prefix.Parse(s); p != (api.Prefix{}) || ok {
		t.Errorf("%q: %v, %v", s, p, ok)
	}
}

func TestParse(t *testing.T) {
	for s, want := range map[string]api.Prefix{
		"10.1.0.0/16":        {Addr: 10<<24 + 1<<16, Bits: 16},
		"0.0.0.0/0":          {},
		"0.0.0.0/9":          {Bits: 9},
		"0.0.0.0/10":         {Bits: 10},
		"0.0.0.0/32":         {Bits: 32},
		"255.255.255.255/32": of(255, 255, 255, 255, 32),
		"200.249.99.8/29":    of(200, 249, 99, 8, 29),
	} {
		if p, ok := prefix.Parse(s); p != want || !ok {
			t.Errorf("%q: %v, %v; want %v", s, p, ok, want)
		}
	}
}

func TestParseOfOtherTexts(t *testing.T) {
	for _, s := range []string{
		"", ".", "/", ".../", "...", "0", "0/0", "10", "10.0.0.0", "10.0.0.0/", "/8", "10.0.0/8", "10/8", "10.0.0.0.0/8", "10.0.0.0.8",
		"10..0.0/8", ".10.0.0.0/8", "10.0.0.0./8", "10.0.0./8", "10.0.0.0//8", "10.0.0.0/8/", "10.0.0.0/8/8", "10.0.0.0/8.", "10/0.0.0/8", "10.0/0.0/8", "10/0/0/0.8",
		"10.0.0.0/33", "10.0.0.0/40", "10.0.0.0/99", "10.0.0.0/100", "10.0.0.0/-1", "10.0.0.0/+8", "10.0.0.0/08", "0.0.0.0/00", "10.0.0.0/008", "10.0.0.0/8a", "10.0.0.0/a",
		"10.0.0.256/32", "256.0.0.0/8", "0.256.0.0/16", "0.0.300.0/24", "999.0.0.0/8", "1000.0.0.0/8",
		"010.0.0.0/8", "00.0.0.0/0", "10.00.0.0/8", "10.0.0.000/8", "0.0.0.01/32", "1.0.0.010/32",
		"10.0.0.1/8", "10.1.0.0/15", "0.0.0.1/0", "128.0.0.0/0", "255.255.255.255/31", "192.168.128.0/16",
		"-1.0.0.0/8", "+10.0.0.0/8", "-0.0.0.0/0", "0x0a.0.0.0/8", "a.0.0.0/8", "1e1.0.0.0/8", "1_0.0.0.0/8",
		" 10.0.0.0/8", "10.0.0.0/8 ", "10.0.0.0 /8", "10. 0.0.0/8", "10.0.0.0/8\n", "\t10.0.0.0/8", "10.0.0.0/8\x00", "\x0010.0.0.0/8",
		"10,0,0,0/8", "10.0.0.0\\8", "10.0.0.0:8", "any", "::/0", "::ffff:10.0.0.0/104", "\xff.0.0.0/8", "10.0.0.0/\x80", "１0.0.0.0/8", "10.0.0.0/٨", "10。0.0.0/8",
		// Numbers that are right ones, if they wrap round.
		"4294967306.0.0.0/8", "266.0.0.0/8", "10.0.0.0/4294967304", "10.0.0.0/264", "10.0.0.0/18446744073709551624", "18446744073709551626.0.0.0/8",
	} {
		wantNone(t, s)
		if _, ok := readAs(s); ok {
			t.Errorf("%q is a prefix's", s)
		}
	}
}

func TestParseOfLongTexts(t *testing.T) {
	const many = 1 << 20
	for _, piece := range []string{"0", "1", ".", "/", "0.", "10.0.0.0/8", "\xff"} {
		long := strings.Repeat(piece, many)
		for _, s := range []string{long, long + "10.0.0.0/8", "10.0.0.0/8" + long, "10." + long + ".0.0/8", "10.0.0.0/" + long} {
			if p, ok := prefix.Parse(s); p != (api.Prefix{}) || ok {
				t.Errorf("%q, many times: %v, %v", piece, p, ok)
			}
		}
	}
}

// Every number of a byte, and of bits, at each of its places.
func TestParseOfAllNumbers(t *testing.T) {
	yes := 0
	for n := range 1100 {
		number := strings.TrimLeft(string([]byte{byte('0' + n/1000), byte('0' + n/100%10), byte('0' + n/10%10), byte('0' + n%10)}), "0")
		if number == "" {
			number = "0"
		}
		for _, form := range []string{"#.0.0.0/32", "0.#.0.0/32", "0.0.#.0/32", "0.0.0.#/32", "0.0.0.0/#", "#.#.#.#/32", "#.0.0.0/#", "#.0.0.0/4", "0.#.0.0/12", "0.0.#.0/20", "0.0.0.#/28"} {
			for _, ahead := range []string{"", "0", "00", " ", "-", "+"} {
				s := strings.ReplaceAll(form, "#", ahead+number)
				p, ok := prefix.Parse(s)
				if want, is := readAs(s); p != want || ok != is {
					t.Errorf("%q: %v, %v; want %v, %v", s, p, ok, want, is)
				}
				if ok {
					yes++
				}
			}
		}
	}
	if yes < 1000 {
		t.Errorf("too few that are right: %d", yes)
	}
}

// near are all texts that are one byte away from a text.
func near(s string) []string {
	var all []string
	for k := range len(s) + 1 {
		for c := range 256 {
			all = append(all, s[:k]+string([]byte{byte(c)})+s[k:])
			if k < len(s) {
				all = append(all, s[:k]+string([]byte{byte(c)})+s[k+1:])
			}
		}
		if k < len(s) {
			all = append(all, s[:k]+s[k+1:])
		}
	}
	return all
}

// What is read is the prefix whose text it is, and nothing else is read.
func TestParseOfTextsOneByteAway(t *testing.T) {
	yes := 0
	for _, from := range []string{"0.0.0.0/0", "10.1.0.0/16", "192.168.128.0/17", "255.255.255.255/32", "1.2.3.4/32", "99.0.20.0/22", "0.0.0.0/3", "128.0.0.0/1"} {
		for _, s := range near(from) {
			p, ok := prefix.Parse(s)
			if want, is := readAs(s); p != want || ok != is {
				t.Errorf("%q: %v, %v; want %v, %v", s, p, ok, want, is)
			}
			if ok {
				yes++
				if prefix.Text(p) != s {
					t.Errorf("%q: another text, %q", s, prefix.Text(p))
				}
			}
		}
	}
	if yes < 100 {
		t.Errorf("too few that are right: %d", yes)
	}
}

// All texts of a few pieces.
func TestParseOfPieces(t *testing.T) {
	pieces := []string{"0", "8", "32", ".", "/"}
	texts := []string{""}
	for range 9 {
		var longer []string
		for _, s := range texts {
			if p, ok := prefix.Parse(s); ok {
				t.Fatalf("%q: %v", s, p)
			}
			// More than these separators in a row are told of above.
			if strings.Contains(s, "..") || strings.Contains(s, "//") || strings.Count(s, "/") > 1 {
				continue
			}
			for _, piece := range pieces {
				longer = append(longer, s+piece)
			}
		}
		texts = longer
	}
	var right []string
	for _, s := range texts {
		p, ok := prefix.Parse(s)
		if want, is := readAs(s); p != want || ok != is {
			t.Errorf("%q: %v, %v; want %v, %v", s, p, ok, want, is)
		}
		if ok {
			right = append(right, s)
		}
	}
	if !slices.Contains(right, "8.0.0.0/8") || !slices.Contains(right, "32.8.0.0/32") || slices.Contains(right, "8.8.0.0/8") {
		t.Error(right)
	}
}
