package scan

import (
	"reflect"
	"regexp"
	"strings"
	"testing"
	"unsafe"

	"cloister/api"
)

const allWords = "chief acts in out proc begin for var if else while send take do return release to int bool true false"

const allSigns = "&& || == != <= >= + - * / % < > ! ( ) { } , ; : ="

// P1.1

func TestWord(t *testing.T) {
	for _, s := range strings.Fields(allWords) {
		if !Word(s) {
			t.Errorf("Word(%q) is false", s)
		}
		for _, o := range []string{s + "_", "_" + s, " " + s, s + " ", strings.ToUpper(s), s[1:] + s[:1]} {
			if Word(o) {
				t.Errorf("Word(%q) is true", o)
			}
		}
	}
	for _, s := range []string{"", "x", "main", "main()", "label", "none", "if else", "&&", "1"} {
		if Word(s) {
			t.Errorf("Word(%q) is true", s)
		}
	}
}

func TestName(t *testing.T) {
	longest := strings.Repeat("a", api.MaxName)
	for _, s := range []string{"x", "X", "_", "__", "a1", "_1", "A_z9", "If", "iff", "i", longest, longest[1:] + "9"} {
		if !Name(s) {
			t.Errorf("Name(%q) is false", s)
		}
	}
	for _, s := range []string{"", "1", "1a", "0_", longest + "a", strings.Repeat("a", 1000), "a b", " a", "a ", "a\n", "a-b", "a.", "a:", "é", "aé", "a\x00", "a\xff", "[", "`", "@", "{"} {
		if Name(s) {
			t.Errorf("Name(%q) is true", s)
		}
	}
	for _, s := range strings.Fields(allWords) {
		if Name(s) {
			t.Errorf("Name(%q) is true of a word", s)
		}
	}
}

func TestNameByteByByte(t *testing.T) {
	const letters = "abcdefghijklmnopqrstuvwxyzABCDEFGHIJKLMNOPQRSTUVWXYZ_"
	for c := 0; c < 256; c++ {
		s := string([]byte{byte(c)})
		if got, want := Name(s), strings.Contains(letters, s); got != want {
			t.Errorf("Name(%q) is %v", s, got)
		}
		if got, want := Name("q"+s), strings.Contains(letters+"0123456789", s); got != want {
			t.Errorf("Name(%q) is %v", "q"+s, got)
		}
	}
}

// P1.2

func TestScanTokens(t *testing.T) {
	name, number, word, sign := api.Name, api.Number, api.Word, api.Sign
	for s, want := range map[string][]api.Token{
		"":                    nil,
		" \t\n":               nil,
		"#":                   nil,
		"# $ 01\r\xff #":      nil,
		"#a\n#b\n":            nil,
		"x":                   {{Kind: name, Text: "x"}},
		" if\tx\n":            {{Kind: word, At: 1, Text: "if"}, {Kind: name, At: 4, Text: "x"}},
		"iff If":              {{Kind: name, Text: "iff"}, {Kind: name, At: 4, Text: "If"}},
		"a#b\nc":              {{Kind: name, Text: "a"}, {Kind: name, At: 4, Text: "c"}},
		"a#b":                 {{Kind: name, Text: "a"}},
		"0":                   {{Kind: number, Text: "0"}},
		"999999999":           {{Kind: number, Text: "999999999"}},
		"10 0":                {{Kind: number, Text: "10"}, {Kind: number, At: 3, Text: "0"}},
		"12ab":                {{Kind: number, Text: "12"}, {Kind: name, At: 2, Text: "ab"}},
		"0x1":                 {{Kind: number, Text: "0"}, {Kind: name, At: 1, Text: "x1"}},
		"1if":                 {{Kind: number, Text: "1"}, {Kind: word, At: 1, Text: "if"}},
		"-1":                  {{Kind: sign, Text: "-"}, {Kind: number, At: 1, Text: "1"}},
		"abcdefghijkl":        {{Kind: name, Text: "abcdefghijkl"}},
		"_1":                  {{Kind: name, Text: "_1"}},
		"<==":                 {{Kind: sign, Text: "<="}, {Kind: sign, At: 2, Text: "="}},
		"===":                 {{Kind: sign, Text: "=="}, {Kind: sign, At: 2, Text: "="}},
		"!==":                 {{Kind: sign, Text: "!="}, {Kind: sign, At: 2, Text: "="}},
		"= =":                 {{Kind: sign, Text: "="}, {Kind: sign, At: 2, Text: "="}},
		"=<":                  {{Kind: sign, Text: "="}, {Kind: sign, At: 1, Text: "<"}},
		"!!":                  {{Kind: sign, Text: "!"}, {Kind: sign, At: 1, Text: "!"}},
		"&&&&":                {{Kind: sign, Text: "&&"}, {Kind: sign, At: 2, Text: "&&"}},
		"{A:}":                {{Kind: sign, Text: "{"}, {Kind: name, At: 1, Text: "A"}, {Kind: sign, At: 2, Text: ":"}, {Kind: sign, At: 3, Text: "}"}},
		"x=1;":                {{Kind: name, Text: "x"}, {Kind: sign, At: 1, Text: "="}, {Kind: number, At: 2, Text: "1"}, {Kind: sign, At: 3, Text: ";"}},
		"release(x to{})":     {{Kind: word, Text: "release"}, {Kind: sign, At: 7, Text: "("}, {Kind: name, At: 8, Text: "x"}, {Kind: word, At: 10, Text: "to"}, {Kind: sign, At: 12, Text: "{"}, {Kind: sign, At: 13, Text: "}"}, {Kind: sign, At: 14, Text: ")"}},
		"true # no\n# \n  &&": {{Kind: word, Text: "true"}, {Kind: sign, At: 15, Text: "&&"}},
	} {
		expect(t, s, want, api.Fault{})
	}
}

func TestScanEachSignAndWord(t *testing.T) {
	for _, s := range strings.Fields(allSigns) {
		expect(t, s, []api.Token{{Kind: api.Sign, Text: s}}, api.Fault{})
	}
	for _, s := range strings.Fields(allWords) {
		expect(t, s, []api.Token{{Kind: api.Word, Text: s}}, api.Fault{})
	}
}

func TestScanEachByte(t *testing.T) {
	for c := 0; c < 256; c++ {
		s := string([]byte{byte(c)})
		l, f := Scan(s)
		known := strings.Contains(" \t\n#0123456789+-*/%<>!(){},;:=", s) || Name(s)
		if known != (f == api.Fault{}) {
			t.Errorf("Scan(%q): %v", s, f)
		}
		if !known && (f != api.Fault{Code: api.ErrText} || len(l) > 0) {
			t.Errorf("Scan(%q): %v, %v", s, l, f)
		}
	}
}

func TestScanFaults(t *testing.T) {
	for s, want := range map[string]api.Fault{
		"$":                        {Code: api.ErrText},
		"a\r\n":                    {Code: api.ErrText, At: 1},
		"a \x00":                   {Code: api.ErrText, At: 2},
		"é":                        {Code: api.ErrText},
		"aé":                       {Code: api.ErrText, At: 1},
		"&":                        {Code: api.ErrText},
		"a |":                      {Code: api.ErrText, At: 2},
		"& &":                      {Code: api.ErrText},
		"&&&":                      {Code: api.ErrText, At: 2},
		"&|":                       {Code: api.ErrText},
		"\"a\"":                    {Code: api.ErrText},
		"1.5":                      {Code: api.ErrText, At: 1},
		"00":                       {Code: api.ErrRange},
		"01":                       {Code: api.ErrRange},
		" 09a":                     {Code: api.ErrRange, At: 1},
		"1000000000":               {Code: api.ErrRange},
		"0000000000":               {Code: api.ErrRange},
		"(1234567890":              {Code: api.ErrRange, At: 1},
		"abcdefghijklm":            {Code: api.ErrMany},
		"1abcdefghijklm":           {Code: api.ErrMany, At: 1},
		"#\n____________1":         {Code: api.ErrMany, At: 2},
		"$ 01":                     {Code: api.ErrText},
		"01 $":                     {Code: api.ErrRange},
		"a 01 abcdefghijklm":       {Code: api.ErrRange, At: 2},
		"a abcdefghijklm 01":       {Code: api.ErrMany, At: 2},
		"#$\n$":                    {Code: api.ErrText, At: 3},
		strings.Repeat("9", 3000):  {Code: api.ErrRange},
		strings.Repeat("if", 2000): {Code: api.ErrMany},
	} {
		expect(t, s, nil, want)
	}
}

func TestScanLongTexts(t *testing.T) {
	blanks := strings.Repeat(" ", api.MaxText)
	expect(t, blanks, nil, api.Fault{})
	expect(t, "#"+blanks[1:], nil, api.Fault{})
	expect(t, blanks[1:]+"x", []api.Token{{Kind: api.Name, At: api.MaxText - 1, Text: "x"}}, api.Fault{})
	expect(t, blanks[1:]+"$", nil, api.Fault{Code: api.ErrText, At: api.MaxText - 1})
	for _, s := range []string{blanks + " ", "$" + blanks, "01" + blanks, "x" + blanks, strings.Repeat("x", 100000)} {
		expect(t, s, nil, api.Fault{Code: api.ErrMany})
	}
}

func TestScanManyTokens(t *testing.T) {
	most := strings.Repeat("a;", api.MaxTokens/2)
	l, f := Scan(most + " # a b c")
	if f != (api.Fault{}) || len(l) != api.MaxTokens {
		t.Fatalf("%d tokens, %v", len(l), f)
	}
	for s, want := range map[string]api.Fault{
		"b":                {Code: api.ErrMany, At: len(most)},
		" # \n b":          {Code: api.ErrMany, At: len(most) + 5},
		"b $":              {Code: api.ErrMany, At: len(most)},
		"b 01":             {Code: api.ErrMany, At: len(most)},
		" abcdefghijklm b": {Code: api.ErrMany, At: len(most) + 1},
		" $ b":             {Code: api.ErrText, At: len(most) + 1},
		" 01":              {Code: api.ErrRange, At: len(most) + 1},
		"&":                {Code: api.ErrText, At: len(most)},
	} {
		expect(t, most+s, nil, want)
	}
}

func TestScanAnswersNewMemory(t *testing.T) {
	s := strings.Clone("while x")
	a, _ := Scan(s)
	b, _ := Scan(s)
	if unsafe.StringData(a[0].Text) == unsafe.StringData(s) {
		t.Error("a token's Text is a piece of what was handed in")
	}
	a[0].Text = "if"
	if b[0].Text != "while" {
		t.Error("two answers share a list")
	}
}

// P1.3

func TestJoin(t *testing.T) {
	long := strings.Repeat("x", api.MaxText)
	for _, c := range []struct {
		l    []api.Token
		want string
		code api.Errno
	}{
		{nil, "", api.OK},
		{[]api.Token{}, "", api.OK},
		{texts("a"), "a", api.OK},
		{texts("a", "b"), "a b", api.OK},
		{texts("if", "x", "<=", "10", "{"), "if x <= 10 {", api.OK},
		{texts(""), "", api.OK},
		{texts("", ""), " ", api.OK},
		{texts("$ ", "\xff", "# no"), "$  \xff # no", api.OK},
		{[]api.Token{{Kind: 9, At: 7, Text: "b"}, {Kind: -1, At: -7, Text: "a"}}, "b a", api.OK},
		{texts(long), long, api.OK},
		{texts(long, long), long + " " + long, api.OK},
		{texts(long + "x"), "", api.ErrMany},
		{texts("a", long+"x"), "", api.ErrMany},
		{texts(long+"x", "a"), "", api.ErrMany},
		{make([]api.Token, api.MaxTokens), strings.Repeat(" ", api.MaxTokens-1), api.OK},
		{make([]api.Token, api.MaxTokens+1), "", api.ErrMany},
		{make([]api.Token, 100000), "", api.ErrMany},
	} {
		if s, code := Join(c.l); s != c.want || code != c.code {
			t.Errorf("Join of %d tokens: %.40q, %d; want %.40q, %d", len(c.l), s, code, c.want, c.code)
		}
	}
}

func TestJoinReadsAlone(t *testing.T) {
	room := texts("a", "b", "spare", "room")
	l := room[:2]
	if s, code := Join(l); s != "a b" || code != api.OK {
		t.Errorf("%q, %d", s, code)
	}
	if !reflect.DeepEqual(room, texts("a", "b", "spare", "room")) {
		t.Errorf("changed: %v", room)
	}
	one := texts(strings.Clone("while"))
	if s, _ := Join(one); unsafe.StringData(s) == unsafe.StringData(one[0].Text) {
		t.Error("what is answered is what was handed in")
	}
}

// P1.4

func TestScanOfJoin(t *testing.T) {
	for _, s := range []string{
		"", "# no", "a", "x<=10 # no\n{", "12ab", "0x1", "1if", "<==", "===", "!==", "&&&&", "!!x", "--1",
		"chief A; acts A B; in i: int {A:B;B:};\nproc main() begin {} for A {\n\tvar x = release(i*2%3 to {B:});\n}",
		strings.Join(strings.Fields(allSigns), ""), allWords,
		strings.Repeat("a;", api.MaxTokens/2), strings.Repeat("!", api.MaxTokens),
	} {
		roundTrip(t, s)
	}
}

// FuzzScan holds Scan against a scanner made of patterns, and what is read against what is read again.
func FuzzScan(f *testing.F) {
	pieces := strings.Fields(allWords + " " + allSigns + " x X_9 _ abcdefghijkl abcdefghijklm 0 01 10 999999999 1234567890 & | $ é \x00 \xff")
	pieces = append(pieces, " ", "\t", "\n", "\r", "#", "# $", "#\n")
	state := uint32(1)
	for i := 0; i < 3000; i++ {
		var b strings.Builder
		for k := 0; k < i%40; k++ {
			state = state*1664525 + 1013904223
			n := int(state >> 16)
			b.WriteString(pieces[n%len(pieces)])
			if n%3 > 0 {
				b.WriteString(" ")
			}
		}
		f.Add(b.String())
	}
	f.Fuzz(func(t *testing.T, s string) {
		l, fault := byPatterns(s)
		expect(t, s, l, fault)
		roundTrip(t, s)
	})
}

// byPatterns does what Scan must, by other means.
func byPatterns(s string) (l []api.Token, f api.Fault) {
	if len(s) > api.MaxText {
		return nil, api.Fault{Code: api.ErrMany}
	}
	for at := 0; at < len(s); {
		m := pattern.FindStringSubmatch(s[at:])
		if m == nil {
			return nil, api.Fault{Code: api.ErrText, At: at}
		}
		t := api.Token{At: at, Text: m[0]}
		at += len(m[0])
		code := api.OK
		switch {
		case m[1] != "":
			continue
		case m[2] != "":
			t.Kind = api.Name
			if strings.Contains(" "+allWords+" ", " "+m[2]+" ") {
				t.Kind = api.Word
			}
			if len(m[2]) > 12 {
				code = api.ErrMany
			}
		case m[3] != "":
			t.Kind = api.Number
			if !goodNumber.MatchString(m[3]) {
				code = api.ErrRange
			}
		default:
			t.Kind = api.Sign
		}
		if code == api.OK && len(l) == api.MaxTokens {
			code = api.ErrMany
		}
		if code != api.OK {
			return nil, api.Fault{Code: code, At: t.At}
		}
		l = append(l, t)
	}
	return l, api.Fault{}
}

var (
	pattern    = regexp.MustCompile(`^(?:([ \t\n]|#[^\n]*)|([A-Za-z_][0-9A-Za-z_]*)|([0-9]+)|(&&|\|\||==|!=|<=|>=|[-+*/%<>!(){},;:=]))`)
	goodNumber = regexp.MustCompile(`^(0|[1-9][0-9]{0,8})$`)
)

func expect(t *testing.T, s string, want []api.Token, fault api.Fault) {
	t.Helper()
	l, f := Scan(s)
	if f != fault {
		t.Errorf("Scan(%.60q): %v, want %v", s, f, fault)
	}
	if len(l) != len(want) || len(want) > 0 && !reflect.DeepEqual(l, want) {
		t.Errorf("Scan(%.60q): %v, want %v", s, l, want)
	}
}

// roundTrip: the tokens of s, joined, are read as they were, each a blank behind the one ahead.
func roundTrip(t *testing.T, s string) {
	t.Helper()
	l, f := Scan(s)
	if f != (api.Fault{}) {
		return
	}
	joined, code := Join(l)
	if code != api.OK {
		t.Fatalf("Join of the tokens of %.60q: %d", s, code)
	}
	if len(joined) > api.MaxText {
		expect(t, joined, nil, api.Fault{Code: api.ErrMany})
		return
	}
	at := 0
	for i := range l {
		l[i].At = at
		at += len(l[i].Text) + 1
	}
	expect(t, joined, l, api.Fault{})
}

func texts(l ...string) []api.Token {
	var out []api.Token
	for _, s := range l {
		out = append(out, api.Token{Text: s})
	}
	return out
}
