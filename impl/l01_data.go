package impl

import (
	"slices"
	"strconv"
	"strings"
)

const MaxNodes = 600
const MaxDepth = 20
const MaxNumber = 999999999
const MaxSymbol = 16
const MaxString = 20
const MaxSource = 15000

const (
	DatumList    = 0
	DatumSymbol  = 1
	DatumNumber  = 2
	DatumBoolean = 3
	DatumString  = 4
)

type Datum struct {
	Kind   int
	Number int
	Text   string
	Items  []Datum
}

func FormatNumber(n int) string { return strconv.Itoa(n) }

func ParseNumber(s string) (int, bool) {
	n, err := strconv.Atoi(s)
	// Atoi also reads leading zeros, "-0" and a plus sign; none of them is written.
	if err != nil || !isNumber(n) || FormatNumber(n) != s {
		return 0, false
	}
	return n, true
}

func isNumber(n int) bool { return -MaxNumber <= n && n <= MaxNumber }

func IsSymbol(s string) bool {
	if s == "" || len(s) > MaxSymbol || startsLikeNumber(s) {
		return false
	}
	for _, r := range s {
		if !isSymbolRune(r) {
			return false
		}
	}
	return true
}

func startsLikeNumber(s string) bool {
	s = strings.TrimPrefix(s, "-")
	return s != "" && isDigit(rune(s[0]))
}

func isDigit(r rune) bool { return '0' <= r && r <= '9' }

func isSymbolRune(r rune) bool {
	return 'a' <= r && r <= 'z' || isDigit(r) || strings.ContainsRune("!?*<>=/+-._", r)
}

func isStringText(s string) bool {
	if len(s) > MaxString {
		return false
	}
	// A byte that belongs to no character is read as a rune above '~'.
	for _, r := range s {
		if r < ' ' || r > '~' || r == '"' {
			return false
		}
	}
	return true
}

func SymbolDatum(s string) Datum { return ifValid(Datum{Kind: DatumSymbol, Text: s}) }

func NumberDatum(n int) Datum { return ifValid(Datum{Kind: DatumNumber, Number: n}) }

func BooleanDatum(b bool) Datum {
	if b {
		return Datum{Kind: DatumBoolean, Number: 1}
	}
	return Datum{Kind: DatumBoolean}
}

func StringDatum(s string) Datum { return ifValid(Datum{Kind: DatumString, Text: s}) }

func ListDatum(items []Datum) Datum { return Datum{Kind: DatumList, Items: copyData(items)} }

func ifValid(d Datum) Datum {
	if !IsDatum(d) {
		return Datum{}
	}
	return d
}

func copyDatum(d Datum) Datum {
	d.Items = copyData(d.Items)
	return d
}

func copyData(list []Datum) []Datum {
	if len(list) == 0 {
		return nil
	}
	copied := make([]Datum, len(list))
	for i, d := range list {
		copied[i] = copyDatum(d)
	}
	return copied
}

func CountNodes(d Datum) int {
	count := 1
	for _, item := range d.Items {
		count += CountNodes(item)
	}
	return count
}

func DepthOf(d Datum) int {
	deepest := 0
	for _, item := range d.Items {
		deepest = max(deepest, DepthOf(item))
	}
	return deepest + 1
}

func EqualData(a Datum, b Datum) bool {
	if a.Kind != b.Kind || a.Number != b.Number || a.Text != b.Text || len(a.Items) != len(b.Items) {
		return false
	}
	for i, item := range a.Items {
		if !EqualData(item, b.Items[i]) {
			return false
		}
	}
	return true
}

func IsDatum(d Datum) bool {
	_, ok := nodesLeft(d, MaxNodes, MaxDepth)
	return ok
}

func AreData(list []Datum) bool {
	left, ok := MaxNodes, true
	for _, d := range list {
		left, ok = nodesLeft(d, left, MaxDepth)
		if !ok {
			return false
		}
	}
	return true
}

// nodesLeft takes the nodes of d from those that are left. It gives up at the
// first node that is too many, too deep or not valid, so that huge data cost
// no more than valid ones.
func nodesLeft(d Datum, left int, depth int) (int, bool) {
	if left == 0 || depth == 0 || !isNode(d) {
		return 0, false
	}
	left--
	ok := true
	for _, item := range d.Items {
		left, ok = nodesLeft(item, left, depth-1)
		if !ok {
			return 0, false
		}
	}
	return left, true
}

func isNode(d Datum) bool {
	switch d.Kind {
	case DatumList:
		return d.Number == 0 && d.Text == ""
	case DatumSymbol:
		return d.Number == 0 && IsSymbol(d.Text) && len(d.Items) == 0
	case DatumNumber:
		return isNumber(d.Number) && d.Text == "" && len(d.Items) == 0
	case DatumBoolean:
		return (d.Number == 0 || d.Number == 1) && d.Text == "" && len(d.Items) == 0
	case DatumString:
		return d.Number == 0 && isStringText(d.Text) && len(d.Items) == 0
	}
	return false
}

func FormatDatum(d Datum) string {
	if !IsDatum(d) {
		return ""
	}
	return datumText(d)
}

func FormatData(list []Datum) string {
	if !AreData(list) {
		return ""
	}
	text := ""
	for _, d := range list {
		text += datumText(d) + "\n"
	}
	return text
}

func datumText(d Datum) string {
	switch d.Kind {
	case DatumSymbol:
		return d.Text
	case DatumNumber:
		return FormatNumber(d.Number)
	case DatumBoolean:
		if d.Number == 1 {
			return "#t"
		}
		return "#f"
	case DatumString:
		return "\"" + d.Text + "\""
	}
	texts := make([]string, len(d.Items))
	for i, item := range d.Items {
		texts[i] = datumText(item)
	}
	return "(" + strings.Join(texts, " ") + ")"
}

func ParseData(source string) ([]Datum, bool) {
	if len(source) > MaxSource {
		return nil, false
	}
	r := reader{source: source}
	var list []Datum
	for r.skipBlanks(); !r.atEnd(); r.skipBlanks() {
		d, ok := r.readDatum(MaxDepth)
		if !ok {
			return nil, false
		}
		list = append(list, d)
	}
	if !AreData(list) {
		return nil, false
	}
	return list, true
}

type reader struct {
	source string
	at     int
}

func (r *reader) atEnd() bool { return r.at == len(r.source) }

func (r *reader) skipBlanks() {
	inComment := false
	for ; !r.atEnd(); r.at++ {
		switch r.source[r.at] {
		case '\n':
			inComment = false
		case ' ', '\t':
		case ';':
			inComment = true
		default:
			if !inComment {
				return
			}
		}
	}
}

// readDatum reads a datum of at most this depth. A deeper one is refused at
// once, so that the nesting of the source does not become that of the calls.
func (r *reader) readDatum(depth int) (Datum, bool) {
	r.skipBlanks()
	if r.atEnd() || depth == 0 {
		return Datum{}, false
	}
	switch r.source[r.at] {
	case '(':
		r.at++
		return r.readItems(depth)
	case '\'':
		r.at++
		quoted, ok := r.readDatum(depth - 1)
		return Datum{Kind: DatumList, Items: []Datum{SymbolDatum("quote"), quoted}}, ok
	case '"':
		r.at++
		return r.readString()
	}
	return r.readWord()
}

func (r *reader) readItems(depth int) (Datum, bool) {
	var items []Datum
	for r.skipBlanks(); !r.atEnd(); r.skipBlanks() {
		if r.source[r.at] == ')' {
			r.at++
			return Datum{Kind: DatumList, Items: items}, true
		}
		item, ok := r.readDatum(depth - 1)
		if !ok {
			return Datum{}, false
		}
		items = append(items, item)
	}
	return Datum{}, false
}

func (r *reader) readString() (Datum, bool) {
	length := strings.IndexByte(r.source[r.at:], '"')
	if length < 0 {
		return Datum{}, false
	}
	d := StringDatum(r.source[r.at : r.at+length])
	r.at += length + 1
	return d, d.Kind == DatumString
}

// readWord reads an empty word where a ")" stands alone; no datum has this
// text.
func (r *reader) readWord() (Datum, bool) {
	start := r.at
	for !r.atEnd() && strings.IndexByte(" \n\t()\";'", r.source[r.at]) < 0 {
		r.at++
	}
	return wordDatum(r.source[start:r.at])
}

func wordDatum(word string) (Datum, bool) {
	if n, ok := ParseNumber(word); ok {
		return NumberDatum(n), true
	}
	if word == "#t" || word == "#f" {
		return BooleanDatum(word == "#t"), true
	}
	d := SymbolDatum(word)
	return d, d.Kind == DatumSymbol
}

func SwapSymbols(d Datum, a string, b string) Datum {
	copied := copyDatum(d)
	if IsDatum(d) && IsSymbol(a) && IsSymbol(b) {
		swapIn(&copied, a, b)
	}
	return copied
}

func swapIn(d *Datum, a string, b string) {
	if d.Kind == DatumSymbol && d.Text == a {
		d.Text = b
	} else if d.Kind == DatumSymbol && d.Text == b {
		d.Text = a
	}
	for i := range d.Items {
		swapIn(&d.Items[i], a, b)
	}
}

func SymbolsOf(d Datum) []string {
	if !IsDatum(d) {
		return nil
	}
	return addSymbols(nil, d)
}

func addSymbols(symbols []string, d Datum) []string {
	if d.Kind == DatumSymbol && !slices.Contains(symbols, d.Text) {
		symbols = append(symbols, d.Text)
	}
	for _, item := range d.Items {
		symbols = addSymbols(symbols, item)
	}
	return symbols
}
