package trace_test

import (
	"fmt"
	"math"
	"math/big"
	"reflect"
	"regexp"
	"slices"
	"strings"
	"testing"

	"tappet/api"
	"tappet/trace"
)

// form is a line's form in another way than the package has it: a pattern, and the letters of what it takes out.
type form struct {
	mark    api.Mark
	letters string
	pattern *regexp.Regexp
	out     bool
}

// forms are those of all lines.
var forms = func() (fs []form) {
	for _, s := range shapes {
		fs = append(fs, s.form(s.letters, false))
		if s.tells() {
			fs = append(fs, s.form(s.letters+"OV", true))
		}
	}
	return fs
}()

func (s shape) form(letters string, out bool) form {
	pattern := `\A` + s.name
	for _, letter := range letters {
		pattern += " " + string(letter)
		switch at(&api.Entry{}, letter).Kind() {
		case reflect.Bool:
			pattern += `([01])`
		case reflect.Uint64:
			pattern += `(0|[1-9][0-9]*)`
		default:
			pattern += `(0|-?[1-9][0-9]*)`
		}
	}
	return form{s.mark, letters, regexp.MustCompile(pattern + `\z`), out}
}

// fits: can the field hold the number?
func fits(v reflect.Value, number string) bool {
	least, most := big.NewInt(math.MinInt64), big.NewInt(math.MaxInt64)
	if v.Kind() == reflect.Uint64 {
		least, most = new(big.Int), new(big.Int).SetUint64(math.MaxUint64)
	}
	n, ok := new(big.Int).SetString(number, 10)
	return ok && least.Cmp(n) <= 0 && n.Cmp(most) <= 0
}

// entry is the plain entry whose line it is.
func entry(t *testing.T, line string) (api.Entry, bool) {
	t.Helper()
	for _, f := range forms {
		words := f.pattern.FindStringSubmatch(line)
		if words == nil {
			continue
		}
		e := api.Entry{What: f.mark}
		e.Res.Out = f.out
		for k, letter := range f.letters {
			if !fits(at(&e, letter), words[k+1]) {
				return api.Entry{}, false
			}
			put(t, &e, letter, words[k+1])
		}
		return e, true
	}
	return api.Entry{}, false
}

// account is what Parse answers, line by line.
func account(t *testing.T, s string) (es []api.Entry, line int, e api.Errno) {
	t.Helper()
	pieces := strings.Split(s, "\n")
	last := len(pieces) - 1
	for k, p := range pieces[:last] {
		one, ok := entry(t, p)
		if !ok {
			return nil, k + 1, api.ErrText
		}
		es = append(es, one)
	}
	if pieces[last] != "" {
		return nil, last + 1, api.ErrText
	}
	return es, 0, api.OK
}

// checkText holds Parse against the account, and what it takes against Print.
func checkText(t *testing.T, s string) {
	t.Helper()
	es, n, e := account(t, s)
	checkParse(t, s, es, n, e)
	if e == api.OK {
		checkPrint(t, s, api.OK, es...)
	}
}

// checkWrong: a line that is none's, alone, at each place of several, and ahead of another wrong one.
func checkWrong(t *testing.T, bad string) {
	t.Helper()
	if _, ok := entry(t, bad); ok {
		t.Fatalf("%q is an entry's", bad)
	}
	checkParse(t, bad+"\n", nil, 1, api.ErrText)
	checkParse(t, bad+"\nend t5\nend t6\n", nil, 1, api.ErrText)
	checkParse(t, "end t5\n"+bad+"\nend t6\n", nil, 2, api.ErrText)
	checkParse(t, "end t5\ncall t6 c0\n"+bad+"\n", nil, 3, api.ErrText)
	checkParse(t, "end t5\n"+bad+"\n"+bad+"\n", nil, 2, api.ErrText)
	checkParse(t, "end t5\n"+bad+"\nend t5\n\n", nil, 2, api.ErrText)
	checkParse(t, "end t5\n"+bad, nil, 2, api.ErrText)
}

// firsts are a few plain entries of every mark, evictions among them.
func firsts(t *testing.T) (ws []written) {
	t.Helper()
	for _, s := range shapes {
		ws = append(ws, s.write(t, map[rune]string{'t': "3", 'e': "12", 'k': "0", 'w': "40", 'n': "100", 'x': "-7", 'b': "1", 'p': "-1"}, false))
		if s.tells() {
			ws = append(ws, s.write(t, map[rune]string{'t': "1", 'r': "10", 'O': "8", 'V': "2"}, true))
		}
	}
	return ws
}

// TestWords: a word left out, one too much, two changed about, another letter, a great one, none, and no number.
func TestWords(t *testing.T) {
	for _, w := range firsts(t) {
		words := strings.Split(w.line, " ")
		join := func(ws ...string) string { return strings.Join(ws, " ") }
		for k, word := range words {
			gone := join(slices.Delete(slices.Clone(words), k, k+1)...)
			if gone != "" {
				checkWrong(t, gone)
			}
			for at := range k {
				swapped := slices.Clone(words)
				swapped[at], swapped[k] = swapped[k], swapped[at]
				checkWrong(t, join(swapped...))
			}
			with := func(other string) string {
				changed := slices.Clone(words)
				changed[k] = other
				return join(changed...)
			}
			checkWrong(t, with(""))
			checkWrong(t, join(slices.Insert(slices.Clone(words), k+1, word)...))
			checkWrong(t, join(slices.Insert(slices.Clone(words), k+1, "")...))
			if k == 0 {
				continue
			}
			checkWrong(t, with(word[:1]))
			checkWrong(t, with(word[1:]))
			checkWrong(t, with(swapCase(word)))
			checkWrong(t, with(word[1:]+word[:1]))
			checkWrong(t, with(word[:1]+word))
			checkWrong(t, with(word[:1]+" "+word[1:]))
			for _, other := range signs + "zsdiuN" {
				if string(other) != word[:1] {
					checkWrong(t, with(string(other)+word[1:]))
				}
			}
		}
	}
}

func swapCase(word string) string {
	if word[0] >= 'a' {
		return strings.ToUpper(word[:1]) + word[1:]
	}
	return strings.ToLower(word[:1]) + word[1:]
}

// TestTooMuch: one word more, at each place of a line, is taken only where the chapter says so, which is nowhere.
func TestTooMuch(t *testing.T) {
	for _, w := range firsts(t) {
		words := strings.Split(w.line, " ")
		for at := 0; at <= len(words); at++ {
			for _, letter := range signs {
				for _, n := range []string{"0", "1", "7"} {
					checkWrong(t, strings.Join(slices.Insert(slices.Clone(words), at, string(letter)+n), " "))
				}
			}
			for _, word := range []string{"end", "errno", "0", "-", "O", "V", "O8 V2 O8", "V2 O8"} {
				checkWrong(t, strings.Join(slices.Insert(slices.Clone(words), at, word), " "))
			}
		}
	}
	for _, m := range []string{"back t0 e0 p0 v0 a0 y0 b0 r0", "apply t0 f0 c0 g0 e0 m0 o0 k0 w0 y0 b0 r0"} {
		for _, tail := range []string{" O", " V", " O1", " V1", " O V", " O1 V", " O V1", " V1 O1", " O1 V1 O1", " O1 V1 V1", " O1 V1 O1 V1", " o1 v1", " O1  V1", " O1 V1 ", " O1V1", " O-1 V1", " O1 V-1", " 01 V1"} {
			checkWrong(t, m+tail)
		}
		checkText(t, m+" O1 V1\n")
	}
}

// TestBlanks: where a blank stands one stands, and nothing else.
func TestBlanks(t *testing.T) {
	for _, w := range firsts(t) {
		for _, white := range []string{" ", "\t", "\r", "\v", "\f", "\x00", "\u00a0", "\u2003", "\xff", ",", "  "} {
			checkWrong(t, white+w.line)
			checkWrong(t, w.line+white)
			for at := range w.line {
				if w.line[at] == ' ' {
					checkWrong(t, w.line[:at]+" "+white+w.line[at+1:])
					checkWrong(t, w.line[:at]+white+" "+w.line[at+1:])
					if white != " " {
						checkWrong(t, w.line[:at]+white+w.line[at+1:])
					}
				}
			}
			checkWrong(t, strings.ReplaceAll(w.line, " ", "\t"))
			checkWrong(t, strings.ReplaceAll(w.line, " ", ""))
		}
	}
}

// spelt are numbers that no line writes so.
var spelt = []string{
	"", "-", "+", "--1", "-+1", "-0", "+0", "+1", "00", "01", "-01", "007", "0x1", "0b1", "0o1", "1e3", "1_000", "1.0", "1,0", ".", "1-", "1x", "x1", "1\x00", "\x001", " ", "1 ", " 1", "1\t", "\"1\"", "1;",
	"٥", "５", "१", "-５", "1５", "one", "true", "false", "inf", "nan", "t", "\xff", "1\xff", "\u2212\u0031",
	"18446744073709551616", "-9223372036854775809", "-18446744073709551616", "36893488147419103233", "99999999999999999999999999999999", "-99999999999999999999999999999999", "340282366920938463463374607431768211457",
}

// TestNumbers: numbers that are spelt otherwise, and those that the field can't hold, in the place of each word; and those that it can.
func TestNumbers(t *testing.T) {
	many := spelt
	for _, far := range []uint{31, 32, 63, 64, 65} {
		for d := int64(-3); d <= 3; d++ {
			n := new(big.Int).Add(new(big.Int).Lsh(big.NewInt(1), far), big.NewInt(d))
			many = append(many, n.String(), "-"+n.String())
		}
	}
	for n := -12; n <= 12; n++ {
		many = append(many, fmt.Sprint(n))
	}
	many = append(many, strings.Repeat("9", 5000), strings.Repeat("0", 5000)+"1", "-"+strings.Repeat("1", 5000))
	met := map[bool]int{}
	for _, w := range firsts(t) {
		words := strings.Split(w.line, " ")
		for k := 1; k < len(words); k++ {
			for _, n := range many {
				changed := slices.Clone(words)
				changed[k] = words[k][:1] + n
				line := strings.Join(changed, " ")
				_, ok := entry(t, line)
				met[ok]++
				checkText(t, line+"\n")
				if slices.Contains(spelt, n) {
					checkWrong(t, line)
				}
			}
		}
	}
	if met[true] < 3000 || met[false] < 3000 {
		t.Errorf("met %v", met)
	}
}

// TestFound: whether a key was found is 0 or 1.
func TestFound(t *testing.T) {
	for n := -300; n <= 300; n++ {
		s := fmt.Sprintf("back t0 e0 p0 v0 a0 y0 b%d r0", n)
		if n == 0 || n == 1 {
			checkParse(t, s+"\n", []api.Entry{{What: api.MarkBack, Res: api.Res{Found: n == 1}}}, 0, api.OK)
			continue
		}
		checkWrong(t, s)
		checkWrong(t, s+" O0 V0")
	}
	for _, n := range []string{"true", "false", "01", "10", "11", "18446744073709551617", "18446744073709551616", "4294967297"} {
		checkWrong(t, "apply t0 f0 c0 g0 e0 m0 o0 k0 w0 y0 b"+n+" r0")
	}
}

// TestOtherNames: a line under another mark's name, and under names that aren't any's.
func TestOtherNames(t *testing.T) {
	met := 0
	for _, w := range firsts(t) {
		name, behind, _ := strings.Cut(w.line, " ")
		for _, s := range shapes {
			checkText(t, s.name+" "+behind+"\n")
			checkText(t, s.name+"\n")
			if _, ok := entry(t, s.name+" "+behind); ok {
				met++
			}
		}
		for _, other := range []string{
			"", strings.ToUpper(name), strings.ToUpper(name[:1]) + name[1:], name[:len(name)-1], name[1:], name + "s", name + name, name + "\x00", "\ufeff" + name, "returned", "event", "swap", "mark", fmt.Sprint(int(w.e.What)), "0",
		} {
			checkWrong(t, other+" "+behind)
			checkWrong(t, other+behind)
			if other != "" {
				checkWrong(t, other)
			}
		}
		checkWrong(t, behind)
		checkWrong(t, behind+" "+name)
	}
	if met < 20 || met > 60 {
		t.Errorf("%d lines were those of another mark", met)
	}
}

// odd are texts that are no entries'.
var odd = []string{
	" ", "  ", "\t", "\r", "\x00", "\xff", "\xc3\x28", "t0", "5", "#", "end", "end ", "end t", "end 0", "end,t0", "end\tt0", "end t0 t0", "End t0", "END t0", "end T0", "end t0\r", "\rend t0", "end\x00 t0", "end t0\x00", "еnd t0", "end t0\xff", "call", "call t0", "call t0 c", "call t0c0", "call c0", "call c0 t0", "t0 call c0", "Call t0 c0", "calL t0 c0",
}

func TestOdd(t *testing.T) {
	for _, s := range odd {
		checkWrong(t, s)
	}
	for n := 1; n < 5; n++ {
		checkParse(t, strings.Repeat("\n", n), nil, 1, api.ErrText)
		checkParse(t, strings.Repeat("end t1\n", n)+"\n", nil, n+1, api.ErrText)
		checkParse(t, strings.Repeat("end t1\n", n)+"\nend t1\n", nil, n+1, api.ErrText)
	}
	for b := range 256 {
		for _, s := range []string{string([]byte{byte(b)}), "end t" + string([]byte{byte(b)}) + "\n", "end" + string([]byte{byte(b)}) + "t0\n", "end t0" + string([]byte{byte(b)}), "end t0" + string([]byte{byte(b)}) + "\n"} {
			checkText(t, s)
		}
	}
	for _, c := range []string{" ", "0", "t", "end ", "end t0", "end t0 ", "\xff", "-", "9", "O", " O0"} {
		checkParse(t, "end t0\n"+strings.Repeat(c, 1<<18)+"\n", nil, 2, api.ErrText)
		checkParse(t, "end t"+strings.Repeat(c, 1<<18)+"\n", nil, 1, api.ErrText)
		checkParse(t, "back t0 e0 p0 v0 a0 y0 b0 r0"+strings.Repeat(c, 1<<18)+"\n", nil, 1, api.ErrText)
	}
}

// TestEndings: a line ends with a line feed, the last one too, and none but it.
func TestEndings(t *testing.T) {
	for _, w := range firsts(t) {
		checkParse(t, w.line, nil, 1, api.ErrText)
		checkParse(t, "end t0\n"+w.line, nil, 2, api.ErrText)
		checkParse(t, "\n"+w.line, nil, 1, api.ErrText)
		checkParse(t, "\n"+w.line+"\n", nil, 1, api.ErrText)
		checkParse(t, w.line+"\n\n", nil, 2, api.ErrText)
		checkParse(t, w.line+"\r\n", nil, 1, api.ErrText)
		checkParse(t, w.line+"\n\r", nil, 2, api.ErrText)
		checkParse(t, w.line+"\n ", nil, 2, api.ErrText)
		checkParse(t, w.line+w.line+"\n", nil, 1, api.ErrText)
		checkParse(t, w.line+" "+w.line+"\n", nil, 1, api.ErrText)
		checkParse(t, w.line+"\n"+w.line+"\n", []api.Entry{w.e, w.e}, 0, api.OK)
		checkWrong(t, strings.Repeat(w.line, 2))
		for cut := 1; cut < len(w.line); cut++ {
			checkText(t, w.line[:cut]+"\n"+w.line+"\n")
			checkText(t, w.line+"\n"+w.line[:cut])
			checkText(t, w.line[cut:]+"\n")
		}
	}
}

// TestSeveral: of a text of several lines each is wrong in turn, and two of them; the first wrong one is told.
func TestSeveral(t *testing.T) {
	var lines []string
	for _, w := range firsts(t) {
		lines = append(lines, w.line)
	}
	text := func(ls []string) string { return strings.Join(ls, "\n") + "\n" }
	checkText(t, text(lines))
	for k := range lines {
		for _, bad := range []string{"", "end", lines[k] + " ", lines[k] + "0x", strings.ToUpper(lines[k])} {
			changed := slices.Clone(lines)
			changed[k] = bad
			checkParse(t, text(changed), nil, k+1, api.ErrText)
			for at := range lines {
				if at != k {
					twice := slices.Clone(changed)
					twice[at] = "end t-0"
					checkParse(t, text(twice), nil, min(at, k)+1, api.ErrText)
				}
			}
		}
	}
}

// TestNear: a text that is one byte off a right one is taken just where the account says so.
func TestNear(t *testing.T) {
	for _, w := range firsts(t) {
		s := w.line + "\n"
		for at := range s {
			checkText(t, s[:at]+s[at+1:])
			for _, c := range []byte("01-+tOV \n\t\x00\xff") {
				checkText(t, s[:at]+string([]byte{c})+s[at:])
				checkText(t, s[:at]+string([]byte{c})+s[at+1:])
			}
		}
	}
}

// TestDrawnTexts: texts of printed entries with a byte changed, put in or taken out, and texts byte by byte.
func TestDrawnTexts(t *testing.T) {
	const bytes = "abcdefghklmnoprtuvwxyOVT0123456789-+ \n\n\r\t\x00\xff"
	met := map[api.Errno]int{}
	for seed := range int64(4000) {
		source := drawn(seed)
		var b strings.Builder
		for range source(6) {
			b.WriteString(some(t, source).line + "\n")
		}
		s := b.String()
		for range source(3) {
			at, c := source(len(s)+1), bytes[source(len(bytes)):][:1]
			switch rest := s[at:]; source(3) {
			case 0:
				s = s[:at] + c + rest
			case 1:
				s = s[:at] + c + rest[min(1, len(rest)):]
			default:
				s = s[:at] + rest[min(1, len(rest)):]
			}
		}
		_, _, e := trace.Parse(s)
		met[e]++
		checkText(t, s)
		b.Reset()
		for range source(24) {
			b.WriteByte(bytes[source(len(bytes))])
		}
		checkText(t, b.String())
		checkText(t, "end t"+b.String())
		checkText(t, shapes[source(len(shapes))].name+" "+b.String()+"\n")
	}
	if met[api.OK] < 1200 || met[api.ErrText] < 1200 {
		t.Errorf("met %v", met)
	}
}

// FuzzParse: any bytes are taken just where the account says so.
func FuzzParse(f *testing.F) {
	for _, s := range append(odd, "", "\n", "end t5\n\n", "end t-0\n", "end t9223372036854775808\n", "back t2 e7 p1 v3 a4 y0 b0 r0 O8 V2\nend t1", "apply t4 f2 c0 g0 e7 m1 o2 k5 w9 y0 b1 r3\nreturn t1 c0 x40 n0\n") {
		f.Add(s)
	}
	for _, s := range shapes {
		line := s.name
		for _, letter := range s.letters {
			line += " " + string(letter) + "1"
		}
		f.Add(line + "\n")
		f.Add(line + " O1 V1\n")
	}
	f.Fuzz(checkText)
}
