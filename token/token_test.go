package token_test

import (
	"errors"
	"net/netip"
	"regexp"
	"slices"
	"strconv"
	"strings"
	"testing"
	"unsafe"

	"maquette/api"
	"maquette/token"
)

// The forms of tokens, told in another way than the program does.
var (
	nameForm   = regexp.MustCompile(`\A[a-z][a-z0-9-]{0,15}\z`)
	numberForm = regexp.MustCompile(`\A(0|[1-9][0-9]{0,5})\z`)
	gapForm    = regexp.MustCompile(`\A([ \t\n]|#[^\n]*)+`)
	signForm   = regexp.MustCompile(`\A[{};]`)
	pieceForm  = regexp.MustCompile(`\A[a-z0-9./-]+`)
)

func word(s string, at int) token.Token { return token.Token{Kind: token.Word, Text: s, At: at} }

func sign(s string, at int) token.Token { return token.Token{Kind: token.Sign, Text: s, At: at} }

func number(s string, value, at int) token.Token {
	return token.Token{Kind: token.Number, Text: s, Value: value, At: at}
}

func net(s string, addr uint32, bits, at int) token.Token {
	return token.Token{Kind: token.Net, Text: s, Prefix: api.Prefix{Addr: addr, Bits: bits}, At: at}
}

func end(at int) token.Token { return token.Token{Kind: token.End, At: at} }

// short is a text that can be told of.
func short(s string) string {
	if len(s) > 80 {
		return strconv.Quote(s[:80]) + ".."
	}
	return strconv.Quote(s)
}

// wantTokens holds what a text is cut into against tokens.
func wantTokens(t *testing.T, s string, want ...token.Token) {
	t.Helper()
	got, err := token.Cut(s)
	if err != nil || !slices.Equal(got, want) {
		t.Errorf("%s: %v, %v; want %v", short(s), got, err, want)
	}
}

// wantError holds what a text is cut into against nothing and an error at a place.
func wantError(t *testing.T, s string, no api.Errno, at int) {
	t.Helper()
	got, err := token.Cut(s)
	if len(got) != 0 || !errors.Is(err, no) || api.Number(err) != no || api.Place(err) != at {
		t.Errorf("%s: %d tokens, %v; want %v at %d", short(s), len(got), err, no, at)
	}
}

// prefixOf is the prefix that the library's own reader has for a text that it would write so.
func prefixOf(s string) (api.Prefix, bool) {
	n, err := netip.ParsePrefix(s)
	if err != nil || !n.Addr().Is4() || n.Masked() != n || n.String() != s {
		return api.Prefix{}, false
	}
	b := n.Addr().As4()
	return api.Prefix{Addr: uint32(b[0])<<24 | uint32(b[1])<<16 | uint32(b[2])<<8 | uint32(b[3]), Bits: n.Bits()}, true
}

// byForms is what a text, that is not too long, is cut into by the forms above; where it can't be, the place, else -1.
func byForms(s string) ([]token.Token, int) {
	var all []token.Token
	at := 0
	for at < len(s) {
		if gap := gapForm.FindString(s[at:]); gap != "" {
			at += len(gap)
			continue
		}
		piece := signForm.FindString(s[at:])
		one := sign(piece, at)
		if piece == "" {
			piece = pieceForm.FindString(s[at:])
			p, isNet := prefixOf(piece)
			switch {
			case nameForm.MatchString(piece):
				one = word(piece, at)
			case isNet:
				one = net(piece, p.Addr, p.Bits, at)
			case numberForm.MatchString(piece):
				value, _ := strconv.Atoi(piece)
				one = number(piece, value, at)
			default:
				return nil, at
			}
		}
		all = append(all, one)
		at += len(piece)
	}
	return append(all, end(len(s))), -1
}

// wantByForms holds what a text is cut into against the forms, and tells whether it can be.
func wantByForms(t *testing.T, s string) bool {
	t.Helper()
	want, at := byForms(s)
	if at >= 0 {
		wantError(t, s, api.ErrLex, at)
		return false
	}
	wantTokens(t, s, want...)
	return true
}

// eachOf goes through all texts of at most so many of some pieces.
func eachOf(pieces []string, most int, do func(string)) {
	texts := []string{""}
	for k := 0; ; k++ {
		var longer []string
		for _, s := range texts {
			do(s)
			if k < most {
				for _, p := range pieces {
					longer = append(longer, s+p)
				}
			}
		}
		if k == most {
			return
		}
		texts = longer
	}
}

// P6.1: Name

func TestName(t *testing.T) {
	for _, s := range []string{"a", "z", "m", "a-1", "b0", "router", "a-", "a--", "z9", "any", "a0123456789", "abcdefghijklmno", "abcdefghijklmnop", "qrstuvwxyz", "a---------------", "a000000000000000"} {
		if !token.Name(s) {
			t.Errorf("%q is a name", s)
		}
	}
	for _, s := range []string{
		"", "-", "-a", "0", "9", "1a", "A", "aB", "Ab", "a_b", "a b", " a", "a ", "a\n", "\ta", "a.b", "a/b", "a.", ".a", "a;", "a{", "a#", "a:", "a`", "a@", "a[",
		"abcdefghijklmnopq", "abcdefghijklmnopqr", "a\x00", "\x00", "é", "aé", "a\xff", "\xe9", "a\u00b2", "ａ", "a\u2010b", "10.0.0.0/8", "42",
	} {
		if token.Name(s) {
			t.Errorf("%q is no name", s)
		}
	}
}

// Each byte, first, and behind another one.
func TestNameOfEachByte(t *testing.T) {
	const first = "abcdefghijklmnopqrstuvwxyz"
	const behind = first + "0123456789-"
	for c := range 256 {
		s := string([]byte{byte(c)})
		for text, want := range map[string]bool{
			s:                         strings.Contains(first, s),
			s + "a":                   strings.Contains(first, s),
			"a" + s:                   strings.Contains(behind, s),
			"a" + s + "a":             strings.Contains(behind, s),
			"abcdefghijklmno" + s:     strings.Contains(behind, s),
			s + "abcdefghijklmno":     strings.Contains(first, s),
			"abcdefghijklmnop" + s:    false,
			s + "abcdefghijklmnop":    false,
			"abcdefg" + s + "hijklmn": strings.Contains(behind, s),
		} {
			if got := token.Name(text); got != want {
				t.Errorf("%q: %v", text, got)
			}
		}
	}
}

func TestNameOfEachLength(t *testing.T) {
	for n := range 300 {
		for _, c := range []string{"a", "z", "0", "-"} {
			s := strings.Repeat(c, n)
			if n > 0 {
				s = "a" + s[1:]
			}
			if got := token.Name(s); got != (n >= 1 && n <= 16) {
				t.Errorf("%d bytes: %v", n, got)
			}
		}
	}
	if token.Name(strings.Repeat("a", 1<<20)) {
		t.Error("too long")
	}
}

func TestNameOfSmallTexts(t *testing.T) {
	eachOf([]string{"a", "z", "0", "9", "-", ".", "/", "A", "_", " ", "\n"}, 4, func(s string) {
		if got := token.Name(s); got != nameForm.MatchString(s) {
			t.Errorf("%q: %v", s, got)
		}
	})
}

// P6.2: Cut

func TestKinds(t *testing.T) {
	if token.End != 0 || token.Word != 1 || token.Number != 2 || token.Net != 3 || token.Sign != 4 {
		t.Error(token.End, token.Word, token.Number, token.Net, token.Sign)
	}
}

func TestCutOfTheExample(t *testing.T) {
	wantTokens(t, "net 10.0.0.0/8; # x", word("net", 0), net("10.0.0.0/8", 10<<24, 8, 4), sign(";", 14), end(19))
}

func TestCutOfNothing(t *testing.T) {
	wantTokens(t, "", end(0))
	for _, s := range []string{" ", "\t", "\n", " \t\n", "\n\n\n", "#", "##", "# x", "#\n", "# x\n", "#\n#", " # { } ; A = \x00 \xff\n\t", "#\r\n", "\n#é\n"} {
		wantTokens(t, s, end(len(s)))
	}
}

func TestCutOfLines(t *testing.T) {
	wantTokens(t, "router a {\n\tnet 10.1.0.0/16;\n\tlink b cost 7 import m-1;\n}\n",
		word("router", 0), word("a", 7), sign("{", 9),
		word("net", 12), net("10.1.0.0/16", 10<<24+1<<16, 16, 16), sign(";", 27),
		word("link", 30), word("b", 35), word("cost", 37), number("7", 7, 42), word("import", 44), word("m-1", 51), sign(";", 54),
		sign("}", 56), end(58))
}

func TestCutOfSigns(t *testing.T) {
	wantTokens(t, "{", sign("{", 0), end(1))
	wantTokens(t, "}", sign("}", 0), end(1))
	wantTokens(t, ";", sign(";", 0), end(1))
	wantTokens(t, "{};", sign("{", 0), sign("}", 1), sign(";", 2), end(3))
	wantTokens(t, ";;{{}}", sign(";", 0), sign(";", 1), sign("{", 2), sign("{", 3), sign("}", 4), sign("}", 5), end(6))
	wantTokens(t, "a{b}c;1{", word("a", 0), sign("{", 1), word("b", 2), sign("}", 3), word("c", 4), sign(";", 5), number("1", 1, 6), sign("{", 7), end(8))
}

func TestCutOfWords(t *testing.T) {
	for _, s := range []string{"a", "z", "a-1", "a-", "a--b", "a0", "any", "abcdefghijklmno", "abcdefghijklmnop"} {
		wantTokens(t, s, word(s, 0), end(len(s)))
		wantTokens(t, "\n "+s+"\t", word(s, 2), end(len(s)+3))
	}
	for _, s := range []string{"abcdefghijklmnopq", "a000000000000000-", strings.Repeat("a", 1000), "-", "-a", "--", "a.b", "a/b", "a.", "a/", "0a", "9-a"} {
		wantError(t, s, api.ErrLex, 0)
		wantError(t, "ab {"+s+"}", api.ErrLex, 4)
	}
	// A name that is too long is not cut into two.
	wantError(t, "abcdefghijklmnopqrstuvwxyz", api.ErrLex, 0)
}

func TestCutOfNumbers(t *testing.T) {
	for s, value := range map[string]int{"0": 0, "1": 1, "9": 9, "10": 10, "42": 42, "99": 99, "100": 100, "255": 255, "1000": 1000, "65536": 65536, "99999": 99999, "100000": 100000, "123456": 123456, "999999": 999999} {
		wantTokens(t, s, number(s, value, 0), end(len(s)))
		wantTokens(t, "a "+s+";", word("a", 0), number(s, value, 2), sign(";", 2+len(s)), end(3+len(s)))
	}
	for _, s := range []string{
		"1000000", "1000001", "9999999", "10000000", "4294967296", "4294967297", "9223372036854775808", "18446744073709551616", "18446744073709551617", "340282366920938463463374607431768211457", strings.Repeat("9", 1000),
		"00", "01", "007", "000000", "0000000", "000001", "0999999", "00000000000000000001", "010",
		"-1", "-0", "1-", "1-1", "1.", ".1", "1.5", "0.0", "1/2", "0/0", "0x1", "1e3", "1a", "a1.", ".", "/", "..",
	} {
		wantError(t, s, api.ErrLex, 0)
		wantError(t, "1 0 "+s, api.ErrLex, 4)
	}
	wantError(t, "+1", api.ErrLex, 0)
	wantError(t, "1_0", api.ErrLex, 1)
	wantError(t, "1,0", api.ErrLex, 1)
}

func TestCutOfEachNumber(t *testing.T) {
	for n := 0; n < 1_100_000; n += 1 + n%13*n/5000 {
		s := strconv.Itoa(n)
		if n > 999999 {
			wantError(t, s, api.ErrLex, 0)
		} else {
			wantTokens(t, s, number(s, n, 0), end(len(s)))
		}
		wantError(t, "0"+s, api.ErrLex, 0)
		wantError(t, "-"+s, api.ErrLex, 0)
	}
}

func TestCutOfNets(t *testing.T) {
	for s, p := range map[string]api.Prefix{
		"0.0.0.0/0":          {},
		"0.0.0.0/32":         {Bits: 32},
		"10.0.0.0/8":         {Addr: 10 << 24, Bits: 8},
		"10.1.0.0/16":        {Addr: 10<<24 + 1<<16, Bits: 16},
		"10.1.0.0/32":        {Addr: 10<<24 + 1<<16, Bits: 32},
		"128.0.0.0/1":        {Addr: 1 << 31, Bits: 1},
		"255.255.255.255/32": {Addr: 1<<32 - 1, Bits: 32},
		"1.2.3.4/30":         {Addr: 1<<24 + 2<<16 + 3<<8 + 4, Bits: 30},
	} {
		wantTokens(t, s, net(s, p.Addr, p.Bits, 0), end(len(s)))
		wantTokens(t, "{"+s+";", sign("{", 0), net(s, p.Addr, p.Bits, 1), sign(";", 1+len(s)), end(2+len(s)))
	}
	for _, s := range []string{
		"10.0.0.1/8", "10.1.0.0/15", "0.0.0.1/0", "255.255.255.255/31", "1.2.3.4/29", "10.0.0.0/33", "10.0.0.0/-1", "256.0.0.0/8", "0.0.0.256/32", "999.0.0.0/32", "10.0.0.0/264",
		"10.0.0.0", "10.0.0.0/", "/8", "10/8", "10.0.0/8", "10.0.0.0.0/8", "10..0.0/8", "10.0.0.0//8", "10.0.0.0/8/8", "10.0.0.0/8.", ".10.0.0.0/8", "010.0.0.0/8", "10.00.0.0/8", "10.0.0.0/08", "10.0.0.0/8a", "a10.0.0.0/8", "10.0.0.0/8-", "-10.0.0.0/8", "10.0.0.0/810.0.0.0/8",
	} {
		wantError(t, s, api.ErrLex, 0)
		wantError(t, "net "+s+";", api.ErrLex, 4)
	}
}

func TestCutOfRemarks(t *testing.T) {
	wantTokens(t, "a # b\nc", word("a", 0), word("c", 6), end(7))
	wantTokens(t, "a # b\n", word("a", 0), end(6))
	wantTokens(t, "a # b", word("a", 0), end(5))
	wantTokens(t, "a#", word("a", 0), end(2))
	wantTokens(t, "a#\nb", word("a", 0), word("b", 3), end(4))
	wantTokens(t, "a#b;c", word("a", 0), end(5))
	wantTokens(t, "12#3\n4", number("12", 12, 0), number("4", 4, 5), end(6))
	wantTokens(t, "10.0.0.0/8#", net("10.0.0.0/8", 10<<24, 8, 0), end(11))
	wantTokens(t, ";#;\n;", sign(";", 0), sign(";", 4), end(5))
	wantTokens(t, "# a # b\n# c\nd # e", word("d", 12), end(17))
	wantTokens(t, "#A = 01 \x00\xff\r\t\v é\na", word("a", 17), end(18))
	// Only a line feed ends a remark.
	wantTokens(t, "# a\rb\fc\vd\u2028e\u0085f\x00g", end(18))
	// What is wrong behind a remark is told where it stands.
	wantError(t, "# =\n=", api.ErrLex, 4)
	wantError(t, "a # b\n A # c", api.ErrLex, 7)
	wantError(t, "a#b\nabcdefghijklmnopq#\n", api.ErrLex, 4)
}

func TestCutOfGaps(t *testing.T) {
	wantTokens(t, "a b", word("a", 0), word("b", 2), end(3))
	wantTokens(t, "a\tb", word("a", 0), word("b", 2), end(3))
	wantTokens(t, "a\nb", word("a", 0), word("b", 2), end(3))
	wantTokens(t, "  a \t\n b  ", word("a", 2), word("b", 7), end(10))
	wantTokens(t, "1 2", number("1", 1, 0), number("2", 2, 2), end(3))
}

// Each byte alone, behind a word, behind a blank, and within a remark.
func TestCutOfEachByte(t *testing.T) {
	const known = "abcdefghijklmnopqrstuvwxyz0123456789./- \t\n#{};"
	for c := range 256 {
		s := string([]byte{byte(c)})
		for _, text := range []string{s, "a" + s, "a " + s, s + "a", s + " ", "a" + s + "a", "{" + s + "}", s + s, "1" + s, "a" + s + "1", "10.0.0.0/8" + s, "10.0.0" + s + "0/8", s + "\n#"} {
			wantByForms(t, text)
		}
		wantTokens(t, "a#"+s+"\nb", word("a", 0), word("b", 4), end(5))
		if !strings.Contains(known, s) {
			wantError(t, s, api.ErrLex, 0)
			wantError(t, "a"+s, api.ErrLex, 1)
			wantError(t, "a; "+s+"b", api.ErrLex, 3)
			wantError(t, "#\n{"+s, api.ErrLex, 3)
		}
	}
	for _, s := range []string{"\r\n", "a\r\nb", "é", "a é", "\u00a0", "\ufeffa", "a\u2028b", "ａ", "１"} {
		wantByForms(t, s)
	}
	wantError(t, "a\r\nb", api.ErrLex, 1)
	wantError(t, "\ufeffa", api.ErrLex, 0)
}

// Of several that are wrong the first one is told; what is right ahead of it is not.
func TestCutTellsTheFirst(t *testing.T) {
	wantError(t, "a b 01 = A", api.ErrLex, 4)
	wantError(t, "a b = 01", api.ErrLex, 4)
	wantError(t, "{ ; } abc= 01", api.ErrLex, 9)
	wantError(t, "abcdefghijklmnopq=", api.ErrLex, 0)
	wantError(t, "aB", api.ErrLex, 1)
	wantError(t, "1A", api.ErrLex, 1)
	wantError(t, "01A", api.ErrLex, 0)
}

func TestCutOfLongTexts(t *testing.T) {
	const most = 65536
	if api.MaxText != most {
		t.Fatal(api.MaxText)
	}
	for _, c := range []string{" ", "\t", "\n"} {
		wantTokens(t, strings.Repeat(c, most), end(most))
		wantTokens(t, strings.Repeat(c, most-1)+"a", word("a", most-1), end(most))
		wantError(t, strings.Repeat(c, most+1), api.ErrLimit, 0)
	}
	wantTokens(t, strings.Repeat("#", most), end(most))
	wantTokens(t, strings.Repeat("\n", most-10)+"10.0.0.0/8", net("10.0.0.0/8", 10<<24, 8, most-10), end(most))
	wantTokens(t, "#"+strings.Repeat("x", most-3)+"\na", word("a", most-1), end(most))
	wantError(t, strings.Repeat(" ", most-1)+"=", api.ErrLex, most-1)
	wantError(t, strings.Repeat("a", most), api.ErrLex, 0)
	wantError(t, strings.Repeat("1", most), api.ErrLex, 0)
	wantError(t, "; "+strings.Repeat("0.", most/2-1), api.ErrLex, 2)
	// Too long is told first, whatever else is wrong.
	for _, c := range []string{"=", "A", "a", "0", ";", "#", "\x00", "\xff", "-"} {
		wantError(t, strings.Repeat(c, most+1), api.ErrLimit, 0)
	}
	wantError(t, strings.Repeat(" ", most)+"=", api.ErrLimit, 0)
	wantError(t, "#"+strings.Repeat("x", most), api.ErrLimit, 0)
	wantError(t, "a = "+strings.Repeat(";", 1<<22), api.ErrLimit, 0)
}

func TestCutOfManyTokens(t *testing.T) {
	const most = 65536
	got, err := token.Cut(strings.Repeat(";", most))
	if err != nil || len(got) != most+1 {
		t.Fatal(len(got), err)
	}
	for k, one := range got[:most] {
		if one != sign(";", k) {
			t.Fatal(k, one)
		}
	}
	if got[most] != end(most) {
		t.Error(got[most])
	}
	wantByForms(t, strings.Repeat("a 1;", most/4))
	wantByForms(t, strings.Repeat("net 10.0.0.0/8;\n", most/16))
}

// All texts of a few pieces.
func TestCutOfSmallTexts(t *testing.T) {
	for _, w := range []struct {
		pieces []string
		most   int
	}{
		{[]string{"a", "0", "1", "-", ".", "/", " ", "\n", "#", "{", ";", "A"}, 4},
		{[]string{"a", "10.0.0.0/8", "999999", "abcdefghijklmno", "\t", "\n", "#", "}", "\r"}, 4},
		{[]string{"1", "0", "a"}, 8},
	} {
		yes, no := 0, 0
		eachOf(w.pieces, w.most, func(s string) {
			if wantByForms(t, s) {
				yes++
			} else {
				no++
			}
		})
		if yes < 500 || no < 500 {
			t.Errorf("%q: %d can be cut, %d can't", w.pieces, yes, no)
		}
	}
}

func TestCutOfMixedTexts(t *testing.T) {
	pieces := []string{"router", "a", "b-2", "net", "10.0.0.0/8", "0.0.0.0/0", "255.255.255.255/32", "0", "42", "999999", "{", "}", ";", " ", "\t", "\n", "# x\n", "#", " ", "\n", ";", "1000000", "=", "-a"}
	seed := uint32(1)
	yes, no := 0, 0
	for range 20000 {
		s := ""
		for range seed >> 28 {
			seed = seed*1664525 + 1013904223
			s += pieces[int(seed>>8)%len(pieces)]
			if seed>>30 != 0 {
				s += " "
			}
		}
		if wantByForms(t, s) {
			yes++
		} else {
			no++
		}
		seed = seed*1664525 + 1013904223
	}
	if yes < 1000 || no < 1000 {
		t.Errorf("%d can be cut, %d can't", yes, no)
	}
}

// W2, W6: the same is answered again, in memory of its own each time.
func TestCutAnswersNewMemory(t *testing.T) {
	s := strings.Join([]string{"net 10.0.0.0/8;", "{ 42 }"}, "\n")
	first, _ := token.Cut(s)
	want := slices.Clone(first)
	clear(first)
	again, err := token.Cut(s)
	if err != nil || !slices.Equal(again, want) {
		t.Error(again, err)
	}
	begin := uintptr(unsafe.Pointer(unsafe.StringData(s)))
	for _, one := range again[:len(again)-1] {
		if at := uintptr(unsafe.Pointer(unsafe.StringData(one.Text))); at >= begin && at < begin+uintptr(len(s)) {
			t.Errorf("%v lies in the text", one)
		}
	}
}
