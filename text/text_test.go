package text_test

import (
	"fmt"
	"math"
	"math/big"
	"strings"
	"testing"

	"beadle/api"
	"beadle/text"
)

const oneNaN = 0x7ff8000000000000

var minus0 = math.Copysign(0, -1)

// printed are numbers and their texts: the chapter's examples, and the edges that it names.
var printed = []struct {
	x float64
	s string
}{
	{minus0, "-0"}, {0, "0"}, {-12, "-12"}, {math.NaN(), "nan"}, {math.Inf(1), "inf"}, {math.Inf(-1), "-inf"},
	{0.5, "x3fe0000000000000"}, {-0.5, "xbfe0000000000000"}, {1.5, "x3ff8000000000000"}, {1, "1"}, {-1, "-1"}, {9, "9"}, {10, "10"}, {-10, "-10"}, {1000, "1000"},
	{9007199254740990, "9007199254740990"}, {9007199254740991, "9007199254740991"}, {9007199254740992, "x4340000000000000"}, {9007199254740994, "x4340000000000001"},
	{-9007199254740990, "-9007199254740990"}, {-9007199254740991, "-9007199254740991"}, {-9007199254740992, "xc340000000000000"}, {-9007199254740994, "xc340000000000001"},
	{2147483647, "2147483647"}, {2147483648, "2147483648"}, {1 << 63, "x43e0000000000000"}, {-1 << 63, "xc3e0000000000000"}, {1 << 64, "x43f0000000000000"},
	{4503599627370495.5, "x432fffffffffffff"}, {-4503599627370495.5, "xc32fffffffffffff"}, {4503599627370496, "4503599627370496"},
	{math.SmallestNonzeroFloat64, "x0000000000000001"}, {-math.SmallestNonzeroFloat64, "x8000000000000001"},
	{math.MaxFloat64, "x7fefffffffffffff"}, {-math.MaxFloat64, "xffefffffffffffff"}, {math.Float64frombits(0x000abcdef0123456), "x000abcdef0123456"},
}

// nanBits are NaNs of other bits than the one that there is.
var nanBits = []uint64{0x7ff8000000000001, 0x7ff0000000000001, 0x7fffffffffffffff, 0xfff0000000000001, 0xfff8000000000000, 0xffffffffffffffff}

// wantText is a number's text, worked out by its bits and by whole numbers without a bound.
func wantText(x float64) string {
	b := math.Float64bits(x)
	switch {
	case b == 1<<63:
		return "-0"
	case b == 0x7ff<<52:
		return "inf"
	case b == 0xfff<<52:
		return "-inf"
	case b&^(1<<63) > 0x7ff<<52:
		return "nan"
	}
	n, exact := new(big.Float).SetFloat64(x).Int(nil)
	if exact == big.Exact && n.CmpAbs(big.NewInt(1<<53)) < 0 {
		return n.String()
	}
	return fmt.Sprintf("x%016x", b)
}

// pool is numbers of all kinds: those of the table, whole ones and halves, and such with bits that are strewn about.
func pool() []float64 {
	var l []float64
	for _, c := range printed {
		l = append(l, c.x)
	}
	for i := range 64 {
		for d := -2; d <= 2; d++ {
			x := math.Ldexp(1, i) + float64(d)/2
			l = append(l, x, -x)
		}
	}
	b := uint64(1)
	for range 300 {
		b = b*6364136223846793005 + 1442695040888963407
		l = append(l, math.Float64frombits(b), float64(int64(b)>>10), float64(int64(b)>>40)/4)
	}
	return l
}

// fixedBits are the bits of a number, those of the one NaN for all of them.
func fixedBits(x float64) uint64 {
	if x != x {
		return oneNaN
	}
	return math.Float64bits(x)
}

// P2.1
func TestPrintByTable(t *testing.T) {
	for _, c := range printed {
		if got := text.Print(c.x); got != c.s {
			t.Errorf("Print(%v) = %q, want %q", c.x, got, c.s)
		}
	}
}

// P2.1
func TestPrintOfAllKinds(t *testing.T) {
	for _, x := range pool() {
		if got, want := text.Print(x), wantText(x); got != want {
			t.Errorf("Print(%v) = %q, want %q", x, got, want)
		}
	}
}

// P2.1: x is fixed first.
func TestPrintOfOtherNaNs(t *testing.T) {
	for _, b := range nanBits {
		if got := text.Print(math.Float64frombits(b)); got != "nan" {
			t.Errorf("Print of NaN %016x = %q", b, got)
		}
	}
}

// P2.2: bit by bit, NaN too.
func TestParseByTable(t *testing.T) {
	for _, c := range printed {
		x, e := text.Parse(c.s)
		if e != api.OK || math.Float64bits(x) != fixedBits(c.x) {
			t.Errorf("Parse(%q) = %v (%016x), %d", c.s, x, math.Float64bits(x), e)
		}
	}
}

func wantNoNumber(t *testing.T, s string) {
	t.Helper()
	x, e := text.Parse(s)
	if e != api.ErrText || math.Float64bits(x) != 0 {
		t.Errorf("Parse(%q) = %v, %d", s, x, e)
	}
}

// P2.2: texts that are none.
func TestParseRefuses(t *testing.T) {
	for _, s := range []string{
		"", "+1", "01", "-00", "-01", "00", "007", "1.5", "1.0", "1.", ".5", "1e3", "0x10", "0b1", "1_000", "1a", "a1", "- 1", "-", "--1", "-+1", "+", "+0", " 1", "1 ", "1\n", "\t1", "1\x00", "١",
		"NaN", "NAN", "-nan", "+nan", "nan ", "na", "nann", "Inf", "INF", "+inf", "-Inf", "infinity", "in", "--inf", "e", "null",
		"9007199254740992", "-9007199254740992", "9007199254740993", "9223372036854775807", "9223372036854775808", "-9223372036854775808", "-9223372036854775809", "18446744073709551616", "18446744073709551617",
		"x", "x0", "x3fe", "x3fe000000000000", "x3fe00000000000000", "x03fe0000000000000", "X3fe0000000000000", "x3FE0000000000000", "x3fe000000000000g", "x3fe_000000000000", "x+fe0000000000000", "x-fe0000000000000", "-x3fe0000000000000", "3fe0000000000000", "0x3fe0000000000000", "xx3fe000000000000", " x3fe0000000000000", "x3fe0000000000000 ",
		"x0000000000000000", "x8000000000000000", "x7ff0000000000000", "xfff0000000000000", "x7ff8000000000000", "x7ff8000000000001", "x7ff0000000000001", "xfff8000000000000", "xffffffffffffffff", "x3ff0000000000000", "xbff0000000000000", "x4000000000000000", "x433fffffffffffff", "xc33fffffffffffff", "xzzzzzzzzzzzzzzzz",
	} {
		wantNoNumber(t, s)
	}
	wantNoNumber(t, strings.Repeat("1", 1<<16))
	wantNoNumber(t, "x"+strings.Repeat("0", 1<<16))
	wantNoNumber(t, strings.Repeat("0", 1<<16)+"1")
}

// each goes through all texts of at most so many of the letters.
func each(letters string, most int, do func(string)) { eachBehind("", letters, most, do) }

func eachBehind(s, letters string, most int, do func(string)) {
	do(s)
	if most == 0 {
		return
	}
	for i := range len(letters) {
		eachBehind(s+letters[i:i+1], letters, most-1, do)
	}
}

// decimal tells by the letters alone whether s is a whole number's text of a few digits, not -0.
func decimal(s string) bool {
	digits := strings.TrimPrefix(s, "-")
	if digits == "" || strings.Trim(digits, "0123456789") != "" {
		return false
	}
	return digits[0] != '0' || s == "0"
}

// P2.2, P2.3: all texts of four letters.
func TestParseAndWholeOfShortTexts(t *testing.T) {
	n := 0
	each("01289-+x.en_ \n\xff", 4, func(s string) {
		n++
		_, e := text.Parse(s)
		if want := decimal(s) || s == "-0"; (e == api.OK) != want || e != api.OK && e != api.ErrText {
			t.Errorf("Parse(%q): %d", s, e)
		}
		m, e := text.Whole(s)
		if want := decimal(s) && s[0] != '-'; (e == api.OK) != want || e != api.OK && (e != api.ErrText || m != 0) {
			t.Errorf("Whole(%q) = %d, %d", s, m, e)
		}
	})
	if n != 1+15+15*15+15*15*15+15*15*15*15 {
		t.Errorf("%d texts", n)
	}
}

// P2.7: Parse undoes Print, no two numbers have one text.
func TestParseOfPrint(t *testing.T) {
	texts := map[string]uint64{}
	for _, x := range pool() {
		s := text.Print(x)
		y, e := text.Parse(s)
		if e != api.OK || math.Float64bits(y) != fixedBits(x) {
			t.Errorf("Parse(Print(%v)) = %v, %d", x, y, e)
		}
		if b, told := texts[s]; told && b != fixedBits(x) {
			t.Errorf("%q is the text of %016x and of %016x", s, b, fixedBits(x))
		}
		texts[s] = fixedBits(x)
	}
}

// P2.7: Print undoes Parse. Texts a letter away from a number's either are none, or another's.
func TestPrintOfParse(t *testing.T) {
	const letters = "0123456789abcdefx-n+ AF"
	taken := 0
	for _, c := range printed {
		for i := range len(c.s) {
			for k := range len(letters) {
				s := c.s[:i] + letters[k:k+1] + c.s[i+1:]
				x, e := text.Parse(s)
				switch e {
				case api.OK:
					taken++
					if got := text.Print(x); got != s {
						t.Errorf("Print(Parse(%q)) = %q", s, got)
					}
				case api.ErrText:
					if math.Float64bits(x) != 0 {
						t.Errorf("Parse(%q) = %v with an error", s, x)
					}
				default:
					t.Errorf("Parse(%q): %d", s, e)
				}
			}
		}
	}
	if taken < 1000 {
		t.Errorf("only %d texts were taken", taken)
	}
}

// P2.3
func TestWhole(t *testing.T) {
	for _, c := range []struct {
		s string
		n int
	}{{"0", 0}, {"1", 1}, {"9", 9}, {"10", 10}, {"1000000000", 1000000000}, {"2147483646", 2147483646}, {"2147483647", 2147483647}} {
		if n, e := text.Whole(c.s); n != c.n || e != api.OK {
			t.Errorf("Whole(%q) = %d, %d", c.s, n, e)
		}
	}
	for i := range 3000 {
		if n, e := text.Whole(fmt.Sprint(i * 701)); n != i*701 || e != api.OK {
			t.Errorf("Whole(%d) = %d, %d", i*701, n, e)
		}
	}
}

// P2.3: texts that are no such number.
func TestWholeRefuses(t *testing.T) {
	for _, s := range []string{
		"2147483648", "2147483649", "4294967295", "4294967296", "4294967297", "9223372036854775807", "9223372036854775808", "18446744073709551616", "18446744073709551617", strings.Repeat("9", 1<<16),
		"00", "01", "02147483647", "-0", "-1", "-2147483648", "+0", "+1", "", " ", " 1", "1 ", "1\n", "1x", "x1", "1.0", "1e1", "0x1", "1_0", "inf", "nan", "x0000000000000001", "١", "1\x00",
	} {
		if n, e := text.Whole(s); n != 0 || e != api.ErrText {
			t.Errorf("Whole(%q) = %d, %d", s, n, e)
		}
	}
}

// P2.4: each byte ahead, in the midst and at the end.
func TestNameByBytes(t *testing.T) {
	for i := range 256 {
		c := string([]byte{byte(i)})
		letter := i >= 'a' && i <= 'z'
		other := i >= '0' && i <= '9' || i == '-'
		for s, want := range map[string]bool{c: letter, c + "b": letter, "a" + c: letter || other, "a" + c + "z": letter || other, c + c: letter} {
			if got := text.Name(s); got != want {
				t.Errorf("Name(%q) = %t", s, got)
			}
		}
	}
}

// P2.4: the bound counts bytes.
func TestNameByLength(t *testing.T) {
	for n := range 40 {
		want := n >= 1 && n <= 16
		if got := text.Name(strings.Repeat("a", n)); got != want {
			t.Errorf("Name of %d letters = %t", n, got)
		}
		if got := text.Name("a" + strings.Repeat("-", n)); got != (n <= 15) {
			t.Errorf("Name of a letter and %d strokes = %t", n, got)
		}
	}
	for _, s := range []string{"a-1", "z9--", "abcdefghijklmnop", "qrstuvwxyz-01234", "a56789"} {
		if !text.Name(s) {
			t.Errorf("Name(%q) = false", s)
		}
	}
	for _, s := range []string{"1a", "A", "", "-", "-a", "0", "a_b", "a b", "a\n", "a\x00", "é", "aé", "a\u2212", "\u017f", "a\u0661", "\ufffd", "abcdefghijklmnopq"} {
		if text.Name(s) {
			t.Errorf("Name(%q) = true", s)
		}
	}
}
