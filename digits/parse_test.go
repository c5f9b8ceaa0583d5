package digits_test

import (
	"math/rand"
	"slices"
	"strconv"
	"strings"
	"testing"

	"mullion/api"
	"mullion/digits"
	"mullion/whole"
)

// none are texts that tell no integer.
func none() []string {
	nines := strings.Repeat("9", 360)
	out := []string{
		"", " ", "\x00", "\n",
		"00", "01", "007", "000000000", "0000000001", "0" + nines,
		"-5", "+5", "-0", "+0", "--5", "- 5", "(-5)", "(+ 5)", "(- +5)", "(- -5)", "(- (- 5))",
		" 5", "5 ", "\t5", "5\n", "1 2", "(-  5)", "( - 5)", "(- 5 )", " (- 5)", "(- 5) ", "(-\t5)", "(-\n5)",
		"(- 0)", "(- 00)", "(- 05)", "(- 0" + nines + ")",
		"(", "(-", "(- ", "(- 5", "(- )", "(-)", "()", ")", "5)", "- 5)", " 5)", "(- 5))", "((- 5)", "((- 5))", "(5)", "(- 5)5", "5(- 5)", "(- 5)(- 6)", "(- 5 6)",
		"a", "x5", "5x", "5a5", "0x5", "0b1", "0o7", "1e3", "1.0", "1_000", "1,000", "½",
		"/", ":", "1/2", "1:2", "5\x00", "\xff", "5\xff", "1\xb2", "٣", "5٣", "５", "𝟗",
		nines + "x", "1" + nines + "x", "x" + nines, "-" + nines, "(- " + nines, "(- 1" + nines, nines + ")", "(- 1" + nines + "))",
	}
	for b := range 256 {
		if b < '0' || b > '9' {
			one := string([]byte{byte(b)})
			out = append(out, one, "5"+one, one+"5", "12"+one+"34", "(- 1"+one+"2)")
		}
	}
	return out
}

func TestIllFormed(t *testing.T) {
	for _, s := range none() {
		if digits.Numeral(s) {
			t.Errorf("P3.2: Numeral(%q)", s)
		}
		if a, e := digits.Parse(s); e != api.ErrForm || !equal(a, api.Int{}) {
			t.Errorf("P3.2: Parse(%q): %v, %v", s, a, e)
		}
	}
}

// TestCutShort cuts what is told of one below 0 at each place.
func TestCutShort(t *testing.T) {
	s := "(- 1234567890)"
	for i := range len(s) {
		if a, e := digits.Parse(s[:i]); e != api.ErrForm || !equal(a, api.Int{}) {
			t.Errorf("P3.2: Parse(%q): %v, %v", s[:i], a, e)
		}
	}
	for i := 1; i < len(s); i++ {
		if a, e := digits.Parse(s[i:]); e != api.ErrForm || !equal(a, api.Int{}) {
			t.Errorf("P3.2: Parse(%q): %v, %v", s[i:], a, e)
		}
	}
}

func TestNumeral(t *testing.T) {
	for _, s := range []string{"0", "1", "9", "10", "90", "100", "1234567890", "999999999", "1000000000", strings.Repeat("9", 360), strings.Repeat("9", 361), "1" + strings.Repeat("0", 45000)} {
		if !digits.Numeral(s) {
			t.Errorf("P3.2: not Numeral(%q)", s)
		}
	}
	for _, s := range []string{"(- 5)", "(- 10)", digits.Print(minus(7, 7))} {
		if digits.Numeral(s) {
			t.Errorf("P3.2: Numeral(%q): an integer, but no numeral", s)
		}
	}
}

func TestParse(t *testing.T) {
	for _, c := range []struct {
		s    string
		want api.Int
	}{
		{"0", api.Int{}},
		{"1", plus(1)},
		{"(- 1)", minus(1)},
		{"5", plus(5)},
		{"(- 5)", minus(5)},
		{"10", plus(10)},
		{"1234567890", plus(234567890, 1)},
		{"99999999", plus(99999999)},
		{"100000000", plus(100000000)},
		{"999999999", plus(last)},
		{"(- 999999999)", minus(last)},
		{"1000000000", plus(0, 1)},
		{"1000000001", plus(1, 1)},
		{"(- 1000000000)", minus(0, 1)},
		{"1000000020", plus(20, 1)},
		{"999999999999999999", plus(last, last)},
		{"1000000000000000000", plus(0, 0, 1)},
		{"12000000000000000007", plus(7, 0, 12)},
		{"(- 100000000020000000003)", minus(3, 20, 100)},
		{"(- 9223372036854775808)", minus(854775808, 223372036, 9)},
	} {
		if got, e := digits.Parse(c.s); e != api.OK || !equal(got, c.want) || !whole.Is(got) {
			t.Errorf("P3.2: Parse(%q): %v, %v, not %v", c.s, got, e, c.want)
		}
	}
}

// TestMostDigits reads as many digits as may be, and one more.
func TestMostDigits(t *testing.T) {
	const most = 360
	nines, tens := strings.Repeat("9", most), "1"+strings.Repeat("0", most-1)
	greatest := slices.Repeat([]uint32{last}, api.MaxLimbs)
	power := append(make([]uint32, api.MaxLimbs-1), 100000000)
	for _, c := range []struct {
		s    string
		want api.Int
	}{{nines, plus(greatest...)}, {"(- " + nines + ")", minus(greatest...)}, {tens, plus(power...)}, {"(- " + tens + ")", minus(power...)}} {
		if got, e := digits.Parse(c.s); e != api.OK || !equal(got, c.want) {
			t.Errorf("P3.2: %d bytes, as many digits as may be: %v, %v", len(c.s), got, e)
		}
	}
	for _, s := range []string{nines + "9", tens + "0", strings.Repeat("1", 9*most), "7" + strings.Repeat("0", 100000)} {
		for _, large := range []string{s, "(- " + s + ")"} {
			if got, e := digits.Parse(large); e != api.ErrLarge || !equal(got, api.Int{}) {
				t.Errorf("P3.2: %d bytes, too many digits: %v, %v", len(large), got, e)
			}
		}
	}
}

func TestSmallOnes(t *testing.T) {
	for n := int64(-12000); n <= 12000; n++ {
		s := strconv.FormatInt(n, 10)
		if n < 0 {
			s = "(- " + s[1:] + ")"
		}
		a, e := digits.Parse(s)
		if e != api.OK || !equal(a, whole.Of(n)) {
			t.Fatalf("P3.2: Parse(%q): %v, %v", s, a, e)
		}
		if got := digits.Print(a); got != s {
			t.Fatalf("P3.1: Print(%d): %s", n, got)
		}
		if digits.Numeral(s) != (n >= 0) {
			t.Fatalf("P3.2: Numeral(%q)", s)
		}
	}
}

func TestPrintedIsRead(t *testing.T) {
	r := rand.New(rand.NewSource(2))
	for range 5000 {
		a := plus(some(r, api.MaxLimbs)...)
		a.Neg = len(a.Mag) > 0 && r.Intn(2) == 0
		s := digits.Print(a)
		got, e := digits.Parse(s)
		if e != api.OK || !equal(got, a) {
			t.Fatalf("P3.3: %v, printed %s, read %v, %v", a, s, got, e)
		}
		if digits.Numeral(s) == a.Neg {
			t.Fatalf("P3.2: Numeral(%q)", s)
		}
	}
}

// TestReadIsPrinted makes texts near to those that tell an integer: each either
// is read, and printed the same again, or is ill-formed.
func TestReadIsPrinted(t *testing.T) {
	pieces := []string{"0", "1", "5", "90", "000000000", "(", ")", "-", "- ", "(- ", " ", "a", "+"}
	r := rand.New(rand.NewSource(3))
	read := 0
	for range 30000 {
		s := ""
		for range 1 + r.Intn(5) {
			s += pieces[r.Intn(len(pieces))]
		}
		a, e := digits.Parse(s)
		switch {
		case e == api.OK && digits.Print(a) == s && whole.Is(a):
			read++
		case e != api.ErrForm || !equal(a, api.Int{}):
			t.Fatalf("P3.3: Parse(%q): %v, %v, printed %s", s, a, e, digits.Print(a))
		}
		body, below := strings.CutPrefix(strings.TrimSuffix(s, ")"), "(- ")
		if below && strings.HasSuffix(s, ")") {
			s = body
		}
		well := s != "" && strings.Trim(s, "0123456789") == "" && (s[0] != '0' || s == "0" && !below)
		if well != (e == api.OK) {
			t.Fatalf("P3.2: of %q, below 0: %t: %v", s, below, e)
		}
	}
	if read < 1000 {
		t.Errorf("P3.3: only %d texts were read", read)
	}
}
