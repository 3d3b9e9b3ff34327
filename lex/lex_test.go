package lex_test

import (
	"fmt"
	"math/big"
	"regexp"
	"slices"
	"strings"
	"testing"
	"unsafe"

	"damask/api"
	"damask/lex"
)

// marks are all marks, as the chapter lists them.
var marks = strings.Fields("+ - * / % ( ) , ; = ? : < > & | ^ <= >= == != << >>")

// gaps are texts that are passed over, and end what stands ahead of them.
var gaps = []string{
	" ", "\t", "\n", "  ", " \t\n", "\n\n", "#\n", "##\n", "# a+1\n", "#a#b\n", " # x\n\t", "#\r\n", "#A!$_07\x00\xff\xc3\n", "#\n#\n", "#" + strings.Repeat("z", 40) + "\n",
}

// The forms of what is passed over and of tokens, limits aside, each of a whole text.
var (
	passedOver = regexp.MustCompile(`^(?:[ \t\n]|#[^\n]*)$`)
	forms      = []struct {
		kind int
		form *regexp.Regexp
	}{
		{api.TokNumber, regexp.MustCompile(`^[0-9]+$`)},
		{api.TokWord, regexp.MustCompile(`^[a-z][a-z0-9_]*$`)},
		{api.TokMark, regexp.MustCompile(`^(?:[-+*/%(),;=?:<>&|^]|<=|>=|==|!=|<<|>>)$`)},
	}
	numeral = regexp.MustCompile(`^(?:0|[1-9][0-9]*)$`)
)

// number answers what Number should, by whole numbers without bounds.
func number(text string) (int, bool) {
	n, ok := new(big.Int).SetString(text, 10)
	if !ok || !numeral.MatchString(text) || n.Cmp(big.NewInt(1<<31-1)) > 0 {
		return 0, false
	}
	return int(n.Int64()), true
}

// word tells whether a text is a word, as the chapter says.
func word(text string) bool { return len(text) <= 16 && forms[1].form.MatchString(text) }

// tokens answers what Tokens should: at each place it tries all pieces of the text that begin there, from the longest on.
func tokens(text string) ([]api.Token, api.Errno) {
	var list []api.Token
	for at := 0; at < len(text); {
		passed, next := piece(text, at)
		if passed == 0 && next.Kind == 0 {
			return nil, api.ErrSyntax
		}
		if passed == 0 {
			list = append(list, next)
		}
		at += passed + len(next.Text)
	}
	for _, x := range list {
		_, ok := number(x.Text)
		if x.Kind == api.TokNumber && !ok || x.Kind == api.TokWord && !word(x.Text) {
			return nil, api.ErrSyntax
		}
	}
	return list, api.OK
}

// piece answers how many bytes at a place are passed over, or the token there.
func piece(text string, at int) (int, api.Token) {
	for end := len(text); end > at; end-- {
		if passedOver.MatchString(text[at:end]) {
			return end - at, api.Token{}
		}
		for _, f := range forms {
			if f.form.MatchString(text[at:end]) {
				return 0, api.Token{Kind: f.kind, Text: text[at:end], At: at}
			}
		}
	}
	return 0, api.Token{}
}

// told answers tokens as a text, one for each.
func told(list []api.Token) string {
	var parts []string
	for _, x := range list {
		parts = append(parts, fmt.Sprintf("%d %q at %d", x.Kind, x.Text, x.At))
	}
	return strings.Join(parts, "; ")
}

// holds asks Tokens for a list.
func holds(t *testing.T, text string, want []api.Token) {
	t.Helper()
	if got, e := lex.Tokens(text); !slices.Equal(got, want) || e != api.OK {
		t.Errorf("Tokens(%q) = %s, %d, not %s", text, told(got), e, told(want))
	}
}

// refused asks Tokens for ErrSyntax.
func refused(t *testing.T, text string) {
	t.Helper()
	if got, e := lex.Tokens(text); len(got) != 0 || e != api.ErrSyntax {
		t.Errorf("Tokens(%q) = %s, %d, not ErrSyntax", text, told(got), e)
	}
}

// modelled holds Tokens against tokens.
func modelled(t *testing.T, text string) {
	t.Helper()
	want, e := tokens(text)
	if e != api.OK {
		refused(t, text)
		return
	}
	holds(t, text, want)
}

// num, wrd and mrk answer a token of their kind.
func num(text string, at int) api.Token { return api.Token{Kind: api.TokNumber, Text: text, At: at} }
func wrd(text string, at int) api.Token { return api.Token{Kind: api.TokWord, Text: text, At: at} }
func mrk(text string, at int) api.Token { return api.Token{Kind: api.TokMark, Text: text, At: at} }

// list answers tokens as a list.
func list(of ...api.Token) []api.Token { return of }

// 6.1: texts with their tokens

func TestTokens(t *testing.T) {
	for text, want := range map[string][]api.Token{
		"x":                      list(wrd("x", 0)),
		"7":                      list(num("7", 0)),
		"?":                      list(mrk("?", 0)),
		"x+1":                    list(wrd("x", 0), mrk("+", 1), num("1", 2)),
		"let a = hi; a*a":        list(wrd("let", 0), wrd("a", 4), mrk("=", 6), wrd("hi", 8), mrk(";", 10), wrd("a", 12), mrk("*", 13), wrd("a", 14)),
		"x?1:y":                  list(wrd("x", 0), mrk("?", 1), num("1", 2), mrk(":", 3), wrd("y", 4)),
		"q(1,-2)>>3":             list(wrd("q", 0), mrk("(", 1), num("1", 2), mrk(",", 3), mrk("-", 4), num("2", 5), mrk(")", 6), mrk(">>", 7), num("3", 9)),
		"--1":                    list(mrk("-", 0), mrk("-", 1), num("1", 2)),
		"1 2":                    list(num("1", 0), num("2", 2)),
		"a b":                    list(wrd("a", 0), wrd("b", 2)),
		"a\n# said of b\n\tb":    list(wrd("a", 0), wrd("b", 15)),
		"clamp(p(-1,0),lo,hi)%2": list(wrd("clamp", 0), mrk("(", 5), wrd("p", 6), mrk("(", 7), mrk("-", 8), num("1", 9), mrk(",", 10), num("0", 11), mrk(")", 12), mrk(",", 13), wrd("lo", 14), mrk(",", 16), wrd("hi", 17), mrk(")", 19), mrk("%", 20), num("2", 21)),
		") let ( let":            list(mrk(")", 0), wrd("let", 2), mrk("(", 6), wrd("let", 8)),
	} {
		holds(t, text, want)
	}
}

func TestMarks(t *testing.T) {
	if len(marks) != 23 {
		t.Fatalf("%d marks", len(marks))
	}
	for _, m := range marks {
		holds(t, m, list(mrk(m, 0)))
		holds(t, "a"+m+"0", list(wrd("a", 0), mrk(m, 1), num("0", 1+len(m))))
		holds(t, "9"+m+"a", list(num("9", 0), mrk(m, 1), wrd("a", 1+len(m))))
		holds(t, "\t"+m+"#", list(mrk(m, 1)))
	}
}

func TestMarksSideBySide(t *testing.T) {
	for _, a := range marks {
		for _, b := range marks {
			modelled(t, a+b)
			holds(t, a+" "+b, list(mrk(a, 0), mrk(b, 1+len(a))))
			for _, c := range marks {
				modelled(t, a+b+c)
			}
		}
	}
	for text, want := range map[string][]api.Token{
		"=!=":   list(mrk("=", 0), mrk("!=", 1)),
		"<<=":   list(mrk("<<", 0), mrk("=", 2)),
		">>=":   list(mrk(">>", 0), mrk("=", 2)),
		">>>":   list(mrk(">>", 0), mrk(">", 2)),
		"<<<<":  list(mrk("<<", 0), mrk("<<", 2)),
		"<=>":   list(mrk("<=", 0), mrk(">", 2)),
		"<>":    list(mrk("<", 0), mrk(">", 1)),
		"><":    list(mrk(">", 0), mrk("<", 1)),
		"=<":    list(mrk("=", 0), mrk("<", 1)),
		"=>":    list(mrk("=", 0), mrk(">", 1)),
		"===":   list(mrk("==", 0), mrk("=", 2)),
		"====":  list(mrk("==", 0), mrk("==", 2)),
		"<==":   list(mrk("<=", 0), mrk("=", 2)),
		">==":   list(mrk(">=", 0), mrk("=", 2)),
		"!==":   list(mrk("!=", 0), mrk("=", 2)),
		"!===":  list(mrk("!=", 0), mrk("==", 2)),
		"&&":    list(mrk("&", 0), mrk("&", 1)),
		"||":    list(mrk("|", 0), mrk("|", 1)),
		"< <":   list(mrk("<", 0), mrk("<", 2)),
		"< =":   list(mrk("<", 0), mrk("=", 2)),
		"=#\n=": list(mrk("=", 0), mrk("=", 3)),
	} {
		holds(t, text, want)
	}
	for _, text := range []string{"!", "!!", "a!b", "a!", "!a", "! =", "!\t=", "!\n=", "!#\n=", "!!=", "=!", "==!", "!=!", "<!", ">!", "!<", "!>", "(!)", "1!"} {
		refused(t, text)
	}
}

func TestPassedOverAlone(t *testing.T) {
	for _, text := range append([]string{"", "#", "##", "#a", "# a", "#\r", "\t#\xff", " \n\t # 1+1", "#!", "#A\n#B", "\n#"}, gaps...) {
		holds(t, text, nil)
	}
}

func TestRemarks(t *testing.T) {
	for text, want := range map[string][]api.Token{
		"#a\nb":             list(wrd("b", 3)),
		"#\nb":              list(wrd("b", 2)),
		"\n#a\n\nb":         list(wrd("b", 5)),
		"b#":                list(wrd("b", 0)),
		"b#c":               list(wrd("b", 0)),
		"b#c\n":             list(wrd("b", 0)),
		"b #c\nd":           list(wrd("b", 0), wrd("d", 5)),
		"b#c#d\ne":          list(wrd("b", 0), wrd("e", 6)),
		"b#\n#\n#\ne":       list(wrd("b", 0), wrd("e", 7)),
		"b##\nc":            list(wrd("b", 0), wrd("c", 4)),
		"1#2\n3":            list(num("1", 0), num("3", 4)),
		"<#\n<":             list(mrk("<", 0), mrk("<", 3)),
		"b#\r\nc":           list(wrd("b", 0), wrd("c", 4)),
		"b#x\ry\nc":         list(wrd("b", 0), wrd("c", 6)),
		"b#\x00\x80\xff\nc": list(wrd("b", 0), wrd("c", 6)),
		"b#\u00e9\u2028\nc": list(wrd("b", 0), wrd("c", 8)),
		"# let A = 07 !":    nil,
	} {
		holds(t, text, want)
	}
	for _, text := range []string{"#a\nB", "#\n!", "A#", "A#\n", "#\n\r", "a#\n\r\n", "#\u2028\nA"} {
		refused(t, text)
	}
}

func TestTextsAtTheLimit(t *testing.T) {
	word := strings.Repeat("a", 16)
	for _, unit := range []string{" ", "\t", "\n", "#", "#\n", "+", "<=", "1 ", "a,", word + ";", "2147483647 ", "# said\n"} {
		text := strings.Repeat(unit, 1024/len(unit)+2)[:1024]
		modelled(t, text)
		if _, e := lex.Tokens(text); e != api.OK {
			t.Errorf("1024 bytes of %q: %d", unit, e)
		}
		refused(t, text+"\n")
		refused(t, text+" ")
		refused(t, text+"#")
		refused(t, text+"A")
	}
	remark := "a#" + strings.Repeat("b", 1022)
	holds(t, remark, list(wrd("a", 0)))
	refused(t, remark+"b")
	holds(t, strings.Repeat(" ", 1023)+"a", list(wrd("a", 1023)))
	holds(t, strings.Repeat(" ", 1022)+"<=", list(mrk("<=", 1022)))
	refused(t, strings.Repeat(" ", 1023)+"<=")
	refused(t, strings.Repeat(" ", 1023)+"!")
	for _, length := range []int{1025, 1026, 2048, 1<<16 + 1, 1 << 20} {
		for _, unit := range []string{" ", "\n", "#", "1", "a", "+", "A", "\xff"} {
			if got, e := lex.Tokens(strings.Repeat(unit, length)); len(got) != 0 || e != api.ErrSyntax {
				t.Errorf("%d times %q: %d tokens, %d", length, unit, len(got), e)
			}
		}
	}
}

func TestNumbersInATextOnTheirOwn(t *testing.T) {
	for _, text := range []string{"0", "1", "9", "10", "90", "100", "2147483646", "2147483647", "1999999999"} {
		holds(t, text, list(num(text, 0)))
		holds(t, "a "+text+"b", list(wrd("a", 0), num(text, 2), wrd("b", 2+len(text))))
		holds(t, "+"+text+"#", list(mrk("+", 0), num(text, 1)))
	}
	for _, text := range []string{
		"00", "000", "01", "07", "0123", "010", "00a", "07a", "2147483648", "2147483650", "3000000000", "4294967296", "9999999999", "21474836470",
		"9223372036854775807", "9223372036854775808", "18446744073709551615", "18446744073709551616", "18446744073709551617", strings.Repeat("9", 40),
		"1" + strings.Repeat("0", 64), "0" + strings.Repeat("0", 64), strings.Repeat("1", 1024), strings.Repeat("0", 1024),
	} {
		refused(t, text)
		if len(text) < 1000 {
			refused(t, "a+"+text)
			refused(t, text+" a")
			refused(t, "1 "+text+"+")
		}
	}
	for text, want := range map[string][]api.Token{
		"12ab":        list(num("12", 0), wrd("ab", 2)),
		"0a":          list(num("0", 0), wrd("a", 1)),
		"1a2":         list(num("1", 0), wrd("a2", 1)),
		"0x10":        list(num("0", 0), wrd("x10", 1)),
		"1e9":         list(num("1", 0), wrd("e9", 1)),
		"0 0":         list(num("0", 0), num("0", 2)),
		"-1":          list(mrk("-", 0), num("1", 1)),
		"+1":          list(mrk("+", 0), num("1", 1)),
		"0\n7":        list(num("0", 0), num("7", 2)),
		"0#\n7":       list(num("0", 0), num("7", 3)),
		"1,2":         list(num("1", 0), mrk(",", 1), num("2", 2)),
		"2147483647a": list(num("2147483647", 0), wrd("a", 10)),
	} {
		holds(t, text, want)
	}
	for _, text := range []string{"1_", "1_000", "0_0", "1A", "1.5", "1.", ".1", "1e+A", "1\r"} {
		refused(t, text)
	}
}

func TestWordsInATextOnTheirOwn(t *testing.T) {
	for _, text := range []string{"a", "z", "az", "a0", "a9", "a_", "a_1", "a__", "a1_b2", "abcdefghijklmnop", "a123456789012345", "a_______________", "let", "p", "q", "qrstuvwxyz"} {
		holds(t, text, list(wrd(text, 0)))
		holds(t, "1"+text+"+", list(num("1", 0), wrd(text, 1), mrk("+", 1+len(text))))
		holds(t, " "+text+"#"+text, list(wrd(text, 1)))
	}
	for _, text := range []string{
		"abcdefghijklmnopq", "a1234567890123456", "a________________", strings.Repeat("a", 32), strings.Repeat("a", 33), strings.Repeat("a", 1024),
		"_", "_a", "__", "a _", "+_", "1 _a", "A", "Z", "aB", "Ab", "a A", "LET", "a$", "a.b", "a'", "a\"", "a@", "a[0]", "{a}", "a\\", "a~b", "`a`",
	} {
		refused(t, text)
	}
	holds(t, "abcdefghijklmnop qrstuvwxyz012345", list(wrd("abcdefghijklmnop", 0), wrd("qrstuvwxyz012345", 17)))
	refused(t, "1abcdefghijklmnopq")
	refused(t, "a abcdefghijklmnopq b")
}

// Of a byte alone the chapter's words say which it may be; within a remark each may stand.
func TestEveryByte(t *testing.T) {
	for c := range 256 {
		b := string([]byte{byte(c)})
		switch {
		case c == 9 || c == 10 || c == 32 || c == '#':
			holds(t, b, nil)
		case c >= '0' && c <= '9':
			holds(t, b, list(num(b, 0)))
		case c >= 'a' && c <= 'z':
			holds(t, b, list(wrd(b, 0)))
		case strings.Contains("+-*/%(),;=?:<>&|^", b):
			holds(t, b, list(mrk(b, 0)))
		default:
			refused(t, b)
			refused(t, "a "+b+" b")
			refused(t, "a+"+b)
			refused(t, b+"#")
			refused(t, "#\n"+b)
		}
		for _, around := range [][2]string{{"a", "b"}, {"a ", " b"}, {"1", "2"}, {"(", ")"}, {"", "="}, {"=", ""}, {"<", "<"}, {"#\n", "\n#"}, {"a\n", "\nb"}} {
			modelled(t, around[0]+b+around[1])
		}
		if c == 10 {
			holds(t, "1#"+b+"b", list(num("1", 0), wrd("b", 3)))
			continue
		}
		holds(t, "#"+b, nil)
		holds(t, "1#"+b+"b", list(num("1", 0)))
		holds(t, "1#"+b+"b\nc", list(num("1", 0), wrd("c", 5)))
	}
}

func TestBytesThatAreNoValidUTF8(t *testing.T) {
	for _, text := range []string{"\x80", "\xff", "\xc3", "\xc3(", "\xed\xa0\x80", "\xf4\x90\x80\x80", "a\xffb", "\u00e9", "\u0660", "\u00a0", "\u3000", "a\u00e9", "1\u0661", "\uff0b", "\u2264", "\ufeffa", "\u0085", "a\u2028b"} {
		refused(t, text)
		holds(t, "a#"+text+"\nb", list(wrd("a", 0), wrd("b", 3+len(text))))
		holds(t, "a#"+text, list(wrd("a", 0)))
	}
}

// All texts of one and two bytes, and of three and four that have a turn in them.
func TestShortTexts(t *testing.T) {
	for a := range 256 {
		for b := range 256 {
			modelled(t, string([]byte{byte(a), byte(b)}))
		}
	}
	tried(t, "ab_A019+(!=<>#\n \t\r\xff", 3)
	tried(t, "a0_1=!<># \n", 4)
	tried(t, "a0=<#\n", 6)
}

// tried holds Tokens against the model at all texts of so many bytes of an alphabet.
func tried(t *testing.T, alphabet string, length int) {
	t.Helper()
	texts := []string{""}
	for range length {
		var more []string
		for _, text := range texts {
			for i := range len(alphabet) {
				more = append(more, text+alphabet[i:i+1])
			}
		}
		texts = more
	}
	for _, text := range texts {
		modelled(t, text)
	}
}

// A refusal at the text's end leaves nothing of the tokens ahead of it.
func TestRefusedAnywhere(t *testing.T) {
	program := "let a = abs(p(-1,0) - p(0,-1)); # how far\na < 12 ? a << 2 : 2147483647"
	if list, e := lex.Tokens(program); len(list) != 31 || e != api.OK {
		t.Fatalf("%d tokens, %d", len(list), e)
	}
	for at := range len(program) + 1 {
		inRemark := at > strings.Index(program, "#") && at <= strings.Index(program, "\n")
		for _, wrong := range []string{"A", " _", " 07 ", " abcdefghijklmnopq ", "\r", " ! ", "\xff", " 2147483648 "} {
			text := program[:at] + wrong + program[at:]
			modelled(t, text)
			if _, e := lex.Tokens(text); !inRemark && e != api.ErrSyntax {
				t.Errorf("Tokens(%q): %d", text, e)
			}
		}
	}
}

// 6.2

func TestNumber(t *testing.T) {
	for text, want := range map[string]int{
		"0": 0, "1": 1, "7": 7, "9": 9, "10": 10, "42": 42, "100": 100, "1024": 1024, "999999999": 999999999, "1000000000": 1000000000,
		"1999999999": 1999999999, "2147483639": 2147483639, "2147483640": 2147483640, "2147483646": 2147483646, "2147483647": 2147483647,
	} {
		if n, ok := lex.Number(text); n != want || !ok {
			t.Errorf("Number(%q) = %d, %v", text, n, ok)
		}
	}
	for n := range 100000 {
		if got, ok := lex.Number(fmt.Sprint(n)); got != n || !ok {
			t.Errorf("Number of %d = %d, %v", n, got, ok)
		}
	}
}

func TestNumberRefuses(t *testing.T) {
	for _, text := range []string{
		"", "00", "000", "01", "07", "010", "-0", "-1", "+0", "+1", " ", " 1", "1 ", "1 2", "\t1", "1\n", "\n", "a", "1a", "a1", "1a1", "0x1", "0b1", "0o7", "1e3", "1_0", "1.0", "1.", ".1", "#", "1#", "12#3",
		"2147483648", "2147483649", "2147483650", "2147483657", "2147484000", "3000000000", "4294967295", "4294967296", "4294967297", "9999999999", "10000000000", "21474836470", "21474836471",
		"9223372036854775807", "9223372036854775808", "18446744073709551615", "18446744073709551616", "18446744073709551617", "36893488147419103232",
		strings.Repeat("9", 19), strings.Repeat("9", 20), strings.Repeat("9", 1025), strings.Repeat("0", 1025), "1" + strings.Repeat("0", 1<<16), "1" + strings.Repeat("0", 64) + "a", "2147483647a", "2147483648a", "a2147483648",
		"\x00", "1\x00", "\xff", "1\xff", "\u0661", "\uff11", "1\u0661", "/", ":", "1/", "1:", "/1", ":1",
	} {
		if n, ok := lex.Number(text); n != 0 || ok {
			t.Errorf("Number(%q) = %d, %v", text, n, ok)
		}
	}
	for c := range 256 {
		b := string([]byte{byte(c)})
		for _, text := range []string{b, b + "1", "1" + b, "1" + b + "1", b + b, "0" + b, b + "0", "214748364" + b, "2147483647" + b} {
			want, so := number(text)
			if n, ok := lex.Number(text); n != want || ok != so {
				t.Errorf("Number(%q) = %d, %v", text, n, ok)
			}
		}
	}
}

func TestWord(t *testing.T) {
	for _, text := range []string{"a", "m", "z", "ab", "a0", "a9", "a_", "a_b", "a__", "z9_", "let", "p", "x", "median_edge_2", "abcdefghijklmno", "abcdefghijklmnop", "a12345678901234_"} {
		if !lex.Word(text) {
			t.Errorf("Word(%q) is false", text)
		}
	}
	for _, text := range []string{
		"", "_", "_a", "0", "1a", "9z", "A", "Z", "aB", "aZ", "Ab", " ", "a ", " a", "a b", "a\n", "\na", "a\t", "a\r", "a-b", "a+", "+a", "-a", "(a)", "a#", "#a", "#", "a.b", "a!", "12",
		"abcdefghijklmnopq", "a1234567890123456", "a________________", strings.Repeat("a", 32), strings.Repeat("a", 272), strings.Repeat("a", 1<<16+1),
		"\x00", "a\x00", "\xff", "a\xff", "\u00e9", "a\u00e9", "abcdefghijklmno\u00e9", "@", "`", "{", "[", "/", ":", "a@", "a`", "a{", "a[", "a/", "a:", "a^",
	} {
		if lex.Word(text) {
			t.Errorf("Word(%q) is true", text)
		}
	}
	for c := range 256 {
		b := string([]byte{byte(c)})
		for _, text := range []string{b, b + "a", "a" + b, "a" + b + "a", "abcdefghijklmno" + b, "abcdefghijklmnop" + b} {
			if lex.Word(text) != word(text) {
				t.Errorf("Word(%q) is %v", text, lex.Word(text))
			}
		}
	}
}

// What Number and Word take is one token of its kind, and what they refuse is none.
func TestNumberAndWordAreTokens(t *testing.T) {
	for _, text := range []string{"", "0", "00", "07", "10", "2147483647", "2147483648", "-1", "1a", "a", "_", "a_", "A", "a b", "abcdefghijklmnop", "abcdefghijklmnopq", "1 ", " a", "+"} {
		list, _ := lex.Tokens(text)
		one := len(list) == 1 && list[0].Text == text
		if _, ok := lex.Number(text); ok != (one && list[0].Kind == api.TokNumber) {
			t.Errorf("Number(%q) is %v, Tokens says %s", text, ok, told(list))
		}
		if lex.Word(text) != (one && list[0].Kind == api.TokWord) {
			t.Errorf("Word(%q) is %v, Tokens says %s", text, lex.Word(text), told(list))
		}
	}
}

// 6.3

// pieces answers tokens of all kinds, some of which would run into one another side by side.
func pieces() []api.Token {
	all := list(num("0", 0), num("7", 0), num("2147483647", 0), wrd("a", 0), wrd("p", 0), wrd("a_1", 0), wrd("abcdefghijklmnop", 0))
	for _, m := range marks {
		all = append(all, mrk(m, 0))
	}
	return all
}

// drawn answers so many pieces, and a gap ahead of each and one behind them, by a walk that a seed sets.
func drawn(seed uint, count int) ([]api.Token, []string) {
	next := func(n int) int {
		seed = seed*6364136223846793005 + 1442695040888963407
		return int(seed>>33) % n
	}
	var some []api.Token
	all := pieces()
	between := []string{gaps[next(len(gaps))]}
	for range count {
		some = append(some, all[next(len(all))])
		between = append(between, gaps[next(len(gaps))])
	}
	return some, between
}

// written answers a text of tokens with gaps about them, and the tokens with their places there.
func written(some []api.Token, between []string) (string, []api.Token) {
	text := between[0]
	var placed []api.Token
	for i, x := range some {
		x.At = len(text)
		placed = append(placed, x)
		text += x.Text + between[i+1]
	}
	return text, placed
}

func TestToldAgain(t *testing.T) {
	for seed := range uint(3000) {
		some, between := drawn(seed, int(seed%17))
		text, want := written(some, between)
		holds(t, text, want)
		// The last remark may end with the text.
		holds(t, text+"# "+text[:strings.IndexByte(text+"\n", '\n')], want)
	}
}

func TestEachPairToldApart(t *testing.T) {
	for _, a := range pieces() {
		for _, b := range pieces() {
			for _, gap := range gaps {
				text, want := written(list(a, b), []string{"", gap, ""})
				holds(t, text, want)
			}
		}
	}
}

// The tokens of a text that wasn't made of tokens, told again with each gap.
func TestTokensOfTextsToldAgain(t *testing.T) {
	for _, text := range []string{
		"", "a<=12", "<<=", "12ab", "=!=", "p(-1,0)", ">>>", "let a=hi;a*a", "x?1:y?2:3", "1-2-3", "(p(-1,0)+p(0,-1))/2", "0x10", "<<==>>!=<=>", "a#b\nc",
		"let a=p(-1,0);let b=p(0,-1);let c0=p(-1,-1);c0>=max(a,b)?min(a,b):c0<=min(a,b)?max(a,b):a+b-c0 # the median edge",
	} {
		found, e := lex.Tokens(text)
		if e != api.OK {
			t.Fatalf("Tokens(%q): %d", text, e)
		}
		for _, gap := range gaps {
			between := slices.Repeat([]string{gap}, len(found)+1)
			again, want := written(found, between)
			if len(again) <= api.MaxText {
				holds(t, again, want)
			}
		}
	}
}

// stands tells whether tokens stand in a text as 6.3 says.
func stands(text string, found []api.Token) bool {
	behind := 0
	for _, x := range found {
		if x.At < behind || x.Text == "" || !strings.HasPrefix(text[x.At:], x.Text) || !gone(text[behind:x.At]) {
			return false
		}
		behind = x.At + len(x.Text)
	}
	return gone(text[behind:])
}

// gone tells whether a piece of a text has nothing but what is passed over.
func gone(piece string) bool {
	return regexp.MustCompile(`^(?:[ \t\n]|#[^\n]*(?:\n|$))*$`).MatchString(piece)
}

func TestTokensStandInTheText(t *testing.T) {
	for seed := range uint(1000) {
		some, between := drawn(seed+1<<32, int(seed%9))
		for i := range between {
			// Now and then nothing stands between: then the tokens may be others than those drawn.
			if (seed>>i)&1 == 1 {
				between[i] = ""
			}
		}
		text, _ := written(some, between)
		modelled(t, text)
		if found, e := lex.Tokens(text); e == api.OK && !stands(text, found) {
			t.Errorf("Tokens(%q) = %s: they don't stand there", text, told(found))
		}
	}
}

// P1, rules 4 and 6

// A text made of bytes that are written over afterwards shows whether a piece of it was kept.
func TestHandedInIsNotKept(t *testing.T) {
	for _, text := range []string{"a", "+", "7", "a<=12", "let abc=2147483647;#x\nabc"} {
		room := []byte(text)
		found, e := lex.Tokens(unsafe.String(unsafe.SliceData(room), len(room)))
		if string(room) != text {
			t.Errorf("Tokens wrote %q over %q", room, text)
		}
		for i := range room {
			room[i] = 'z'
		}
		want, _ := tokens(text)
		if !slices.Equal(found, want) || e != api.OK {
			t.Errorf("Tokens(%q) = %s, %d behind a write", text, told(found), e)
		}
	}
}

func TestHandedOutIsNew(t *testing.T) {
	for _, text := range []string{"", " ", "a", "a b", "let a=hi;a*a", strings.Repeat("+", 1024)} {
		want, _ := tokens(text)
		first, _ := lex.Tokens(text)
		second, _ := lex.Tokens(text)
		room := first[:cap(first)]
		for i := range room {
			room[i] = api.Token{Kind: -1, Text: "written over", At: -1}
		}
		if !slices.Equal(second, want) {
			t.Errorf("two answers about %q share memory", text)
		}
		holds(t, text, want)
	}
}

// A refused text isn't seen in what is asked behind it.
func TestCallsStandAlone(t *testing.T) {
	for range 3 {
		refused(t, "a # b\n 1 !")
		holds(t, "a<=12", list(wrd("a", 0), mrk("<=", 1), num("12", 3)))
		if n, ok := lex.Number("07"); n != 0 || ok {
			t.Errorf("Number(07) = %d, %v", n, ok)
		}
		if n, ok := lex.Number("7"); n != 7 || !ok {
			t.Errorf("Number(7) = %d, %v", n, ok)
		}
		if lex.Word("7") || !lex.Word("seven") {
			t.Error("Word")
		}
	}
}

// The chapter's examples

func TestExamples(t *testing.T) {
	holds(t, "a<=12", list(wrd("a", 0), mrk("<=", 1), num("12", 3)))
	holds(t, "<<=", list(mrk("<<", 0), mrk("=", 2)))
	holds(t, "12ab", list(num("12", 0), wrd("ab", 2)))
	holds(t, "=!=", list(mrk("=", 0), mrk("!=", 1)))
	for _, text := range []string{"A", "!", "a!b", "07", "2147483648", strings.Repeat("w", 17), "\r", "a\r\nb", strings.Repeat(" ", 1025)} {
		refused(t, text)
	}
	holds(t, "#\r\n", nil)
	holds(t, "p(-1,0)", list(wrd("p", 0), mrk("(", 1), mrk("-", 2), num("1", 3), mrk(",", 4), num("0", 5), mrk(")", 6)))
}
