package tests

import (
	"regexp"
	"strconv"
	"strings"
	"testing"

	"loop.example/g03220/impl"
)

func TestLimitsAndKinds(t *testing.T) {
	got := []int{impl.MaxNodes, impl.MaxDepth, impl.MaxNumber, impl.MaxSymbol, impl.MaxString, impl.MaxSource,
		impl.DatumList, impl.DatumSymbol, impl.DatumNumber, impl.DatumBoolean, impl.DatumString}
	want := []int{600, 20, 999999999, 16, 20, 15000, 0, 1, 2, 3, 4}
	for i := range want {
		if got[i] != want[i] {
			t.Errorf("constant %d is %d, want %d", i, got[i], want[i])
		}
	}
}

func TestFormatNumber(t *testing.T) {
	cases := map[int]string{
		0: "0", 1: "1", 9: "9", 10: "10", -1: "-1", -10: "-10", 100200: "100200",
		impl.MaxNumber: "999999999", -impl.MaxNumber: "-999999999",
		impl.MaxNumber + 1: "1000000000", -impl.MaxNumber - 1: "-1000000000",
		greatestInt: "9223372036854775807", leastInt: "-9223372036854775808",
	}
	for n, want := range cases {
		if got := impl.FormatNumber(n); got != want {
			t.Errorf("FormatNumber(%d) = %q, want %q", n, got, want)
		}
	}
}

func TestParseNumberReadsBack(t *testing.T) {
	numbers := []int{impl.MaxNumber, impl.MaxNumber - 1, 100000000, 99999999, 123456789}
	for n := range 2000 {
		numbers = append(numbers, n)
	}
	for _, n := range numbers {
		for _, signed := range []int{n, -n} {
			got, ok := impl.ParseNumber(impl.FormatNumber(signed))
			if !ok || got != signed {
				t.Errorf("ParseNumber of the text of %d = %d, %v", signed, got, ok)
			}
		}
	}
}

func TestParseNumberRefuses(t *testing.T) {
	bad := []string{
		"", "-", "+", "-0", "00", "007", "-007", "+1", "+0", "--1", "-+1", "1-", "1_000", "0x1", "0b1", "1e3", "1.0",
		" 1", "1 ", "1\n", "\t1", "a", "1a", "a1", "1\x00", "\xff", "\uff11", "\u0661",
		"1000000000", "-1000000000", "9999999999", "2147483648", "9223372036854775807", "-9223372036854775808",
		"9223372036854775808", "18446744073709551617", "4294967297", "0999999999", "0000000001",
		strings.Repeat("9", 100000), strings.Repeat("0", 100000), strings.Repeat("-", 1000),
	}
	for _, s := range bad {
		if n, ok := impl.ParseNumber(s); ok || n != 0 {
			t.Errorf("ParseNumber(%.30q) = %d, %v, want 0, false", s, n, ok)
		}
	}
}

func TestParseNumberAcceptsTextsOnly(t *testing.T) {
	texts := map[string]int{}
	for n := -9999; n <= 99999; n++ {
		texts[strconv.Itoa(n)] = n
	}
	eachString("0195-+ a", 5, func(s string) {
		want, written := texts[s]
		if got, ok := impl.ParseNumber(s); got != want || ok != written {
			t.Fatalf("ParseNumber(%q) = %d, %v, want %d, %v", s, got, ok, want, written)
		}
	})
}

var symbolForm = regexp.MustCompile(`^(-|([a-z!?*<>=/+._]|-[a-z!?*<>=/+.\-_])[a-z0-9!?*<>=/+.\-_]*)$`)

// matchesSymbol is written apart from IsSymbol, which is under test.
func matchesSymbol(s string) bool { return len(s) <= 16 && symbolForm.MatchString(s) }

func TestIsSymbol(t *testing.T) {
	good := []string{
		"a", "z", "-", "+", "...", "_", "!", "?", "*", "<", ">", "=", "/", ".", "set!", "let*", "null?", "a1", "a-1",
		"--1", "-a", "-a1", "+1", "-+1", ".5", "->", "define-syntax", strings.Repeat("q", 16), "-" + strings.Repeat("a", 15),
	}
	for _, s := range good {
		if !impl.IsSymbol(s) {
			t.Errorf("IsSymbol(%q) = false", s)
		}
	}
	bad := []string{
		"", "0", "9", "1a", "-1", "-0", "-1a", "-9", "A", "aB", "#t", "#f", "a b", " a", "a ", "a\n", "a;", "'a", "a'", "(", ")",
		"\"", "a\"", "a{", "a}", "a,", "a:", "a@", "a`", "a\x00", "\xff", "a\x80", "\u00e9", "a\ufffd",
		strings.Repeat("q", 17), "-" + strings.Repeat("a", 16), strings.Repeat("a", 100000), strings.Repeat("\u00e9", 8),
	}
	for _, s := range bad {
		if impl.IsSymbol(s) {
			t.Errorf("IsSymbol(%.30q) = true", s)
		}
	}
}

func TestIsSymbolForAllShortStrings(t *testing.T) {
	bytes := make([]byte, 256)
	for i := range bytes {
		bytes[i] = byte(i)
	}
	check := func(s string) {
		if got := impl.IsSymbol(s); got != matchesSymbol(s) {
			t.Fatalf("IsSymbol(%q) = %v", s, got)
		}
	}
	eachString(string(bytes), 2, check)
	eachString("az09-+.!A\xc3\xa9", 4, check)
}

func TestAtomConstructors(t *testing.T) {
	same := func(label string, got, want impl.Datum) {
		t.Helper()
		if !sameDatum(got, want) {
			t.Errorf("%s = %+v, want %+v", label, got, want)
		}
	}
	same("SymbolDatum(a)", impl.SymbolDatum("a"), symbol("a"))
	same("SymbolDatum(-)", impl.SymbolDatum("-"), symbol("-"))
	same("SymbolDatum of 16 bytes", impl.SymbolDatum(strings.Repeat("a", 16)), symbol(strings.Repeat("a", 16)))
	for _, s := range []string{"", "1", "-1", "A", "a b", "#t", "\xff", strings.Repeat("a", 17)} {
		same("SymbolDatum of no symbol", impl.SymbolDatum(s), impl.Datum{})
	}
	for _, n := range []int{0, 1, -1, impl.MaxNumber, -impl.MaxNumber} {
		same("NumberDatum", impl.NumberDatum(n), number(n))
	}
	for _, n := range []int{impl.MaxNumber + 1, -impl.MaxNumber - 1, leastInt, greatestInt} {
		same("NumberDatum beyond the limit", impl.NumberDatum(n), impl.Datum{})
	}
	same("BooleanDatum(true)", impl.BooleanDatum(true), boolean(1))
	same("BooleanDatum(false)", impl.BooleanDatum(false), boolean(0))
}

func TestStringDatum(t *testing.T) {
	for b := range 256 {
		s := string([]byte{byte(b)})
		want := impl.Datum{}
		if b >= 32 && b <= 126 && b != 34 {
			want = text(s)
		}
		if got := impl.StringDatum(s); !sameDatum(got, want) {
			t.Errorf("StringDatum(%q) = %+v, want %+v", s, got, want)
		}
		if got := impl.StringDatum("a" + s + "b"); (got.Kind == impl.DatumString) != (want.Kind == impl.DatumString) {
			t.Errorf("StringDatum with the byte %d within = %+v", b, got)
		}
	}
	for _, s := range []string{"", " ", ";", "(a 'b) #t \\", strings.Repeat("~", 20)} {
		if got := impl.StringDatum(s); !sameDatum(got, text(s)) {
			t.Errorf("StringDatum(%q) = %+v", s, got)
		}
	}
	for _, s := range []string{strings.Repeat("a", 21), "a\nb", "\u00e9", "\ufffd", "a\"", strings.Repeat("a", 100000)} {
		if got := impl.StringDatum(s); !sameDatum(got, impl.Datum{}) {
			t.Errorf("StringDatum(%.30q) = %+v, want the empty list", s, got)
		}
	}
}
