package tests

import (
	"regexp"
	"strings"
	"testing"

	"loop.example/g03220/impl"
)

func TestFormatDatum(t *testing.T) {
	cases := []struct {
		d    impl.Datum
		want string
	}{
		{impl.Datum{}, "()"}, {symbol("set!"), "set!"}, {number(-5), "-5"}, {number(0), "0"}, {number(impl.MaxNumber), "999999999"},
		{boolean(1), "#t"}, {boolean(0), "#f"}, {text(""), "\"\""}, {text("a ; (b)"), "\"a ; (b)\""},
		{list(symbol("a")), "(a)"}, {list(list(), list()), "(() ())"}, {list(symbol("quote"), symbol("a")), "(quote a)"},
		{list(symbol("a"), list(number(1), text("x y")), boolean(0)), "(a (1 \"x y\") #f)"},
		{nested(20), strings.Repeat("(", 20) + strings.Repeat(")", 20)}, {list(make([]impl.Datum, 599)...), "(" + strings.Repeat("() ", 598) + "())"},
		{nested(21), ""}, {list(make([]impl.Datum, 600)...), ""}, {nested(deepNesting), ""}, {impl.Datum{Kind: 5}, ""}, {symbol("A"), ""}, {symbol(""), ""},
		{number(impl.MaxNumber + 1), ""}, {boolean(2), ""}, {text("\n"), ""}, {list(symbol("a"), text("\"")), ""}, {impl.Datum{Number: 1}, ""},
	}
	for _, c := range cases {
		if got := impl.FormatDatum(c.d); got != c.want {
			t.Errorf("FormatDatum(%.100s) = %.100q, want %.100q", show(c.d), got, c.want)
		}
	}
}

func TestFormatData(t *testing.T) {
	cases := []struct {
		data []impl.Datum
		want string
	}{
		{nil, ""}, {[]impl.Datum{}, ""}, {[]impl.Datum{{}}, "()\n"}, {[]impl.Datum{symbol("a"), list(number(1), text(" ")), boolean(1)}, "a\n(1 \" \")\n#t\n"},
		{make([]impl.Datum, 600), strings.Repeat("()\n", 600)}, {make([]impl.Datum, 601), ""},
		{[]impl.Datum{symbol("a"), symbol("A")}, ""}, {[]impl.Datum{{Kind: -1}, symbol("a")}, ""}, {[]impl.Datum{nested(21)}, ""},
		{[]impl.Datum{list(atoms(599)...), symbol("a")}, ""}, {[]impl.Datum{nested(deepNesting)}, ""},
	}
	for i, c := range cases {
		if got := impl.FormatData(c.data); got != c.want {
			t.Errorf("FormatData of the list %d = %.100q, want %.100q", i, got, c.want)
		}
	}
}

func TestParseDataReads(t *testing.T) {
	cases := []struct{ source, want string }{
		{"", ""}, {" \n\t ", ""}, {"; only a comment", ""}, {";", ""}, {";;\n;", ""}, {"; (\" '\x00\xff\r\n", ""},
		{"a", "a\n"}, {" a\tb\nc ", "a\nb\nc\n"}, {"()", "()\n"}, {"( )", "()\n"}, {"(\n;x\n)", "()\n"}, {"(a(b)c)", "(a (b) c)\n"}, {"()()", "()\n()\n"},
		{"'(a 'b) ; c\n\"x\"", "(quote (a (quote b)))\n\"x\"\n"}, {"''a", "(quote (quote a))\n"}, {"'()", "(quote ())\n"}, {"' a", "(quote a)\n"},
		{"' ; c\n a b", "(quote a)\nb\n"}, {"('a)", "((quote a))\n"}, {"a'b", "a\n(quote b)\n"}, {"'1'\"x\"'#t", "(quote 1)\n(quote \"x\")\n(quote #t)\n"},
		{"\"\"", "\"\"\n"}, {"\"a\"\"b\"", "\"a\"\n\"b\"\n"}, {"a\"b\"c", "a\n\"b\"\nc\n"}, {"\"; no comment\"a", "\"; no comment\"\na\n"}, {"\"()'\\ \"", "\"()'\\ \"\n"},
		{"a;b\nc", "a\nc\n"}, {"a;b", "a\n"}, {"a;b\r\nc", "a\nc\n"}, {"(a;)\n)", "(a)\n"}, {"a;\"\nb;\"", "a\nb\n"}, {"(a ;c\n;d\n b)", "(a b)\n"},
		{"#t #f", "#t\n#f\n"}, {"#t(#f)", "#t\n(#f)\n"}, {"0 -1 12 -", "0\n-1\n12\n-\n"}, {"+ +1 - --1 -a a-1 ... .5", "+\n+1\n-\n--1\n-a\na-1\n...\n.5\n"},
		{"999999999 -999999999", "999999999\n-999999999\n"}, {strings.Repeat("a", 16), strings.Repeat("a", 16) + "\n"},
		{"\"" + strings.Repeat(" ", 20) + "\"", "\"" + strings.Repeat(" ", 20) + "\"\n"},
	}
	for _, c := range cases {
		data, ok := impl.ParseData(c.source)
		if got := impl.FormatData(data); !ok || got != c.want {
			t.Errorf("ParseData(%q) reads %q, %v, want %q", c.source, got, ok, c.want)
		}
	}
}

func TestParseDataGivesTheFields(t *testing.T) {
	got := mustParse(t, "(f -12 #t #f \"s\" () 'q)")
	want := list(symbol("f"), number(-12), boolean(1), boolean(0), text("s"), list(), list(symbol("quote"), symbol("q")))
	if !sameData(got, []impl.Datum{want}) {
		t.Errorf("ParseData gives %+v", got)
	}
}

func TestParseDataRefuses(t *testing.T) {
	bad := []string{
		"(", ")", "(a", "a)", "())", "(()", "a ) b", "(a))", "( ;)", "'", "a '", "' ", "';a", "'; a\n", "')", "(')", "(a ')", "''", "('", "'(",
		"\"", "\"a", "a\"", "\"a\" \"", "\"a\nb\"", "\"\t\"", "\"\x1f\"", "\"\x7f\"", "\"\x80\"", "\"\u00e9\"", "\"\x00\"", "\"a\\\"b\"", "\"" + strings.Repeat("a", 21) + "\"",
		"A", "aB", "1a", "-1a", "-0", "00", "007", "1_0", "1000000000", "-1000000000", "9999999999999999999", "1.5", "#", "#tt", "#true", "#t1", "##t", "#T", "#1",
		"a\rb", "\r", "a\r\n", "\x00", "\v", "\f", "\u00a0", "\ufeff", "\xff", "a,b", "[a]", "{}", "`a", "a:b", "a@", "a|b", "a\\", "a~", "a^", "a&", "a%", "a$", "a#t",
		strings.Repeat("a", 17), "a b c D", "(a b (c D))", "'A", "\"ok\" (1 2 03)",
	}
	for _, s := range bad {
		if data, ok := impl.ParseData(s); ok || len(data) != 0 {
			t.Errorf("ParseData(%q) = %q, %v, want nil, false", s, impl.FormatData(data), ok)
		}
	}
}

func TestParseDataLimits(t *testing.T) {
	open, shut := strings.Repeat("(", 5000), strings.Repeat(")", 5000)
	cases := []struct {
		label, source string
		count         int
		ok            bool
	}{
		{"15000 blanks", strings.Repeat(" ", 15000), 0, true}, {"15001 blanks", strings.Repeat(" ", 15001), 0, false},
		{"a comment of 15000 bytes", ";" + strings.Repeat("x", 14999), 0, true}, {"a comment of 15001 bytes", ";" + strings.Repeat("x", 15000), 0, false},
		{"15000 bytes", "a" + strings.Repeat("\n", 14998) + "b", 2, true}, {"15001 bytes", "a" + strings.Repeat("\n", 14999) + "b", 0, false},
		{"600 data", strings.Repeat("a ", 600), 600, true}, {"601 data", strings.Repeat("a ", 601), 0, false},
		{"600 nodes", "(" + strings.Repeat("1 ", 599) + ")", 1, true}, {"601 nodes", "(" + strings.Repeat("1 ", 600) + ")", 0, false},
		{"600 nodes in lists", strings.Repeat("(a)", 300), 300, true}, {"601 nodes in lists", strings.Repeat("(a)", 300) + "a", 0, false},
		{"600 nodes in quotes", strings.Repeat("'a", 200), 200, true}, {"601 nodes in quotes", "a" + strings.Repeat("'a", 200), 0, false},
		{"depth 20", open[:20] + shut[:20], 1, true}, {"depth 21", open[:21] + shut[:21], 0, false},
		{"depth 20, 30 times", strings.Repeat(open[:20]+shut[:20], 30), 30, true}, {"depth 21 behind others", "a (b) " + open[:21] + shut[:21], 0, false},
		{"an atom at depth 20", open[:19] + "a" + shut[:19], 1, true}, {"an atom at depth 21", open[:20] + "a" + shut[:20], 0, false},
		{"a string at depth 21", open[:20] + "\"\"" + shut[:20], 0, false},
		{"19 quotes", strings.Repeat("'", 19) + "a", 1, true}, {"20 quotes", strings.Repeat("'", 20) + "a", 0, false},
		{"a quote at depth 19", open[:18] + "'a" + shut[:18], 1, true}, {"a quote at depth 20", open[:19] + "'a" + shut[:19], 0, false},
		{"depth 5000", open + shut, 0, false}, {"open lists", open + open + open, 0, false}, {"15000 quotes", strings.Repeat("'", 15000), 0, false},
		{"a huge source", strings.Repeat("(", 1000000), 0, false}, {"a huge comment", ";" + strings.Repeat(" ", 1000000), 0, false},
	}
	for _, c := range cases {
		data, ok := impl.ParseData(c.source)
		if ok != c.ok || len(data) != c.count {
			t.Errorf("%s: %d data, %v, want %d, %v", c.label, len(data), ok, c.count, c.ok)
		}
	}
}

func TestDataAreReadBack(t *testing.T) {
	g := generator(1)
	for range 5000 {
		d := g.datum(3)
		back, ok := impl.ParseData(impl.FormatDatum(d))
		if !impl.IsDatum(d) || !ok || !sameData(back, []impl.Datum{d}) {
			t.Fatalf("%s is read back as %s, %v", impl.FormatDatum(d), impl.FormatData(back), ok)
		}
		data := []impl.Datum{d, g.datum(2), g.datum(2)}
		back, ok = impl.ParseData(impl.FormatData(data))
		if !ok || !sameData(back, data) {
			t.Fatalf("%s is read back as %s, %v", impl.FormatData(data), impl.FormatData(back), ok)
		}
	}
}

var tokenForm = regexp.MustCompile(`^(?:[ \n\t]|;[^\n]*)*($|\(|\)|'|"[ !#-~]{0,20}"|[^ \n\t();'"]+)`)

func tokensOf(source string) ([]string, bool) {
	var tokens []string
	for source != "" {
		found := tokenForm.FindStringSubmatch(source)
		if found == nil {
			return nil, false
		}
		if found[1] != "" {
			tokens = append(tokens, found[1])
		}
		source = source[len(found[0]):]
	}
	return tokens, true
}

// readByOracle reads data in another way than ParseData: tokens by a regular
// expression, from the last one to the first one, with a stack of what stands
// behind them. It knows no limits of nodes, depth and source.
func readByOracle(source string) ([]impl.Datum, bool) {
	tokens, ok := tokensOf(source)
	if !ok {
		return nil, false
	}
	stack := [][]impl.Datum{nil}
	for i := len(tokens) - 1; i >= 0; i-- {
		top := len(stack) - 1
		switch token := tokens[i]; token {
		case ")":
			stack = append(stack, nil)
		case "(":
			if top == 0 {
				return nil, false
			}
			inner := list(stack[top]...)
			stack = stack[:top]
			stack[top-1] = append([]impl.Datum{inner}, stack[top-1]...)
		case "'":
			if len(stack[top]) == 0 {
				return nil, false
			}
			stack[top][0] = list(symbol("quote"), stack[top][0])
		default:
			d, ok := atomByOracle(token)
			if !ok {
				return nil, false
			}
			stack[top] = append([]impl.Datum{d}, stack[top]...)
		}
	}
	return stack[0], len(stack) == 1
}

var numberForm = regexp.MustCompile(`^(0|-?[1-9][0-9]{0,8})$`)

func atomByOracle(token string) (impl.Datum, bool) {
	switch {
	case token[0] == '"':
		return text(token[1 : len(token)-1]), true
	case token == "#t":
		return boolean(1), true
	case token == "#f":
		return boolean(0), true
	case numberForm.MatchString(token):
		value, sign := 0, 1
		for _, digit := range token {
			if digit == '-' {
				sign = -1
			} else {
				value = value*10 + int(digit-'0')
			}
		}
		return number(sign * value), true
	}
	return symbol(token), matchesSymbol(token)
}

func checkAgainstOracle(t *testing.T, source string) {
	t.Helper()
	want, readable := readByOracle(source)
	got, ok := impl.ParseData(source)
	if ok != readable || ok && !sameData(got, want) || !ok && len(got) != 0 {
		t.Fatalf("ParseData(%q) = %q, %v, want %q, %v", source, impl.FormatData(got), ok, impl.FormatData(want), readable)
	}
}

func TestParseDataOfAllShortSources(t *testing.T) {
	eachString("()'\"; \na1-#t\r", 4, func(s string) { checkAgainstOracle(t, s) })
	eachString("()'\"; \na", 6, func(s string) { checkAgainstOracle(t, s) })
}

func TestParseDataOfMixedSources(t *testing.T) {
	parts := []string{"(", ")", "(", ")", "'", "\"", "\"a b\"", "\";\"", ";", "; c\n", " ", "\n", "\t", "a", "set!", "-", "-1", "0", "12", "007", "#t", "#f", "#", "A", "\r", "\xff", "..."}
	g := generator(9)
	for range 50000 {
		var b strings.Builder
		for range g.below(12) {
			b.WriteString(parts[g.below(len(parts))])
		}
		checkAgainstOracle(t, b.String())
	}
}
