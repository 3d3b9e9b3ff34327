package parse_test

import (
	"fmt"
	"reflect"
	"regexp"
	"slices"
	"strings"
	"testing"

	"damask/api"
	"damask/lex"
	"damask/parse"
)

// The model of Parse: the chapter's grammar, word for word, and a walk that tries every way through it.
const grammar = `
program:  { "let" NAME "=" choice ";" } choice
choice:   or [ "?" choice ":" choice ]
or:       xor { "|" xor }
xor:      and { "^" and }
and:      compare { "&" compare }
compare:  shift [ ( "<" | "<=" | ">" | ">=" | "==" | "!=" ) shift ]
shift:    sum { ( "<<" | ">>" ) sum }
sum:      product { ( "+" | "-" ) product }
product:  minus { ( "*" | "/" | "%" ) minus }
minus:    "-" minus | primary
primary:  NUMBER | NAME | "(" choice ")" | call | place
call:     ( "abs" | "sgn" ) "(" choice ")" | ( "min" | "max" ) "(" choice "," choice ")"
          | ( "clamp" | "med" ) "(" choice "," choice "," choice ")"
place:    "p" "(" offset [ "," offset ] ")" | "q" "(" NUMBER "," offset [ "," offset ] ")"
offset:   [ "-" ] NUMBER
`

// reservedWords are the reserved words, as 7.1 lists them; calls and inputs those of them that are so called.
var (
	calls         = strings.Fields("abs sgn min max clamp med")
	inputs        = strings.Fields("x y c lo hi mid")
	reservedWords = slices.Concat([]string{"let", "p", "q"}, calls, inputs)
)

// marked are the operators of two by their marks, each with its level in the grammar, from the loosest on.
var marked = map[string]struct{ op, level int }{
	"|": {api.OpOr, 1}, "^": {api.OpXor, 2}, "&": {api.OpAnd, 3},
	"<": {api.OpLt, 4}, "<=": {api.OpLe, 4}, ">": {api.OpGt, 4}, ">=": {api.OpGe, 4}, "==": {api.OpEq, 4}, "!=": {api.OpNe, 4},
	"<<": {api.OpShl, 5}, ">>": {api.OpShr, 5}, "+": {api.OpAdd, 6}, "-": {api.OpSub, 6}, "*": {api.OpMul, 7}, "/": {api.OpDiv, 7}, "%": {api.OpMod, 7},
}

// compareLevel is the level of which there is one operator in a row.
const compareLevel = 4

// calledOps are the operators of the calls, with how many parts each has.
var calledOps = map[string]struct{ op, parts int }{
	"abs": {api.OpAbs, 1}, "sgn": {api.OpSgn, 1}, "min": {api.OpMin, 2}, "max": {api.OpMax, 2}, "clamp": {api.OpClamp, 3}, "med": {api.OpMed, 3},
}

// form is a piece of the grammar: a text, a rule, a row of pieces, any of them, maybe one, or many.
type form struct {
	how, text string
	of        []form
}

// rules are the grammar's rules by their names.
var rules = readGrammar(grammar)

func readGrammar(text string) map[string]form {
	words := regexp.MustCompile(`"[^"]+"|[a-z]+:|[A-Za-z]+|[][(){}|]`).FindAllString(text, -1)
	all := map[string]form{}
	for len(words) > 0 {
		name := strings.TrimSuffix(words[0], ":")
		words = words[1:]
		all[name] = anyOf(&words)
	}
	return all
}

func anyOf(words *[]string) form {
	f := form{how: "any", of: []form{row(words)}}
	for len(*words) > 0 && (*words)[0] == "|" {
		*words = (*words)[1:]
		f.of = append(f.of, row(words))
	}
	return f
}

func row(words *[]string) form {
	f := form{how: "row"}
	for len(*words) > 0 {
		w := (*words)[0]
		if strings.HasSuffix(w, ":") || strings.Contains(")]}|", w) {
			break
		}
		*words = (*words)[1:]
		if how, ok := map[string]string{"(": "any", "[": "maybe", "{": "many"}[w]; ok {
			f.of = append(f.of, form{how: how, of: []form{anyOf(words)}})
			*words = (*words)[1:]
			continue
		}
		how := "rule"
		if w[0] == '"' || w == "NAME" || w == "NUMBER" {
			how = "text"
		}
		f.of = append(f.of, form{how: how, text: strings.Trim(w, `"`)})
	}
	return f
}

// found is a piece of a text that the grammar takes as a rule (with its pieces), or a token.
type found struct {
	rule  string
	of    []found
	token api.Token
}

// way is one way to take tokens from a place on.
type way struct {
	end int
	of  []found
}

// walk goes through the grammar at a text's tokens.
type walk struct {
	tokens []api.Token
	known  map[spot][]way
}

// spot is a rule at a place among the tokens.
type spot struct {
	rule string
	at   int
}

// ways answers all ways in which a form takes tokens from a place on.
func (w *walk) ways(f form, at int) []way {
	var all []way
	switch f.how {
	case "text":
		if at < len(w.tokens) && fits(f.text, w.tokens[at]) {
			all = []way{{at + 1, []found{{token: w.tokens[at]}}}}
		}
	case "rule":
		all = w.rule(f.text, at)
	case "any":
		for _, g := range f.of {
			all = append(all, w.ways(g, at)...)
		}
	case "row":
		all = []way{{at, nil}}
		for _, g := range f.of {
			all = w.behind(all, g)
		}
	case "maybe":
		all = append([]way{{at, nil}}, w.ways(f.of[0], at)...)
	case "many":
		more := []way{{at, nil}}
		for len(more) > 0 {
			all = append(all, more...)
			more = w.behind(more, f.of[0])
		}
	}
	return all
}

// behind answers the ways of a form behind each of some ways.
func (w *walk) behind(ahead []way, f form) []way {
	var all []way
	for _, a := range ahead {
		for _, b := range w.ways(f, a.end) {
			all = append(all, way{b.end, slices.Concat(a.of, b.of)})
		}
	}
	return all
}

// rule answers the ways of a rule; two that end at one place would be two trees of one text.
func (w *walk) rule(name string, at int) []way {
	key := spot{name, at}
	if all, ok := w.known[key]; ok {
		return all
	}
	var all []way
	for _, x := range w.ways(rules[name], at) {
		if slices.ContainsFunc(all, func(y way) bool { return y.end == x.end }) {
			panic("the grammar has two trees of one text")
		}
		all = append(all, way{x.end, []found{{rule: name, of: x.of}}})
	}
	w.known[key] = all
	return all
}

// fits tells whether a token is what the grammar writes.
func fits(text string, t api.Token) bool {
	switch text {
	case "NAME":
		return t.Kind == api.TokWord
	case "NUMBER":
		return t.Kind == api.TokNumber
	}
	return t.Text == text
}

// expr is an expression with its parts in it.
type expr struct {
	op, k int
	at    api.Place
	parts []expr
}

func num(k int) expr                { return expr{op: api.OpNum, k: k} }
func in(k int) expr                 { return expr{op: api.OpIn, k: k} }
func use(k int) expr                { return expr{op: api.OpUse, k: k} }
func of(op int, parts ...expr) expr { return expr{op: op, parts: parts} }
func place(back, x int) expr {
	return expr{op: api.OpPlace, at: api.Place{Back: back, Coords: 1, X: x}}
}
func place2(back, x, y int) expr {
	return expr{op: api.OpPlace, at: api.Place{Back: back, Coords: 2, X: x, Y: y}}
}
func alone(e expr) api.Tree { return laid(nil, nil, e) }

// laid answers the tree of expressions: their nodes in the order in which they are finished.
func laid(names []string, is []expr, last expr) api.Tree {
	t := api.Tree{Names: names}
	for _, e := range is {
		t.Binds = append(t.Binds, lay(&t, e))
	}
	t.Root = lay(&t, last)
	return t
}

func lay(t *api.Tree, e expr) int {
	n := api.Node{Op: e.op, K: e.k, At: e.at}
	for i, to := range []*int{&n.A, &n.B, &n.C}[:len(e.parts)] {
		*to = lay(t, e.parts[i])
	}
	t.Nodes = append(t.Nodes, n)
	return len(t.Nodes) - 1
}

// model answers what Parse should.
func model(text string) (api.Tree, bool) {
	tokens, e := lex.Tokens(text)
	if e != api.OK {
		return api.Tree{}, false
	}
	w := walk{tokens: tokens, known: map[spot][]way{}}
	for _, x := range w.rule("program", 0) {
		if x.end == len(tokens) {
			return programOf(x.of[0].of)
		}
	}
	return api.Tree{}, false
}

// namer turns what was found into expressions, and notes where 7.1 is broken.
type namer struct {
	names []string
	wrong bool
}

func programOf(pieces []found) (api.Tree, bool) {
	var m namer
	var is []expr
	for ; len(pieces) > 1; pieces = pieces[5:] {
		name := pieces[1].token.Text
		m.wrong = m.wrong || slices.Contains(reservedWords, name) || slices.Contains(m.names, name)
		is = append(is, m.expr(pieces[3]))
		m.names = append(m.names, name)
	}
	last := m.expr(pieces[0])
	if m.wrong {
		return api.Tree{}, false
	}
	return laid(m.names, is, last), true
}

func (m *namer) expr(f found) expr {
	switch f.rule {
	case "choice":
		if len(f.of) == 5 {
			return of(api.OpSel, m.expr(f.of[0]), m.expr(f.of[2]), m.expr(f.of[4]))
		}
	case "minus":
		if len(f.of) == 2 {
			return of(api.OpNeg, m.expr(f.of[1]))
		}
	case "primary":
		return m.primary(f.of)
	case "call":
		return m.call(f.of)
	case "place":
		return m.place(f.of)
	}
	left := m.expr(f.of[0])
	for i := 1; i < len(f.of); i += 2 {
		left = of(marked[f.of[i].token.Text].op, left, m.expr(f.of[i+1]))
	}
	return left
}

func (m *namer) primary(pieces []found) expr {
	switch t := pieces[0].token; {
	case t.Text == "(":
		return m.expr(pieces[1])
	case t.Kind == api.TokNumber:
		return num(numberOf(t))
	case t.Kind == api.TokWord:
		if k := slices.Index(inputs, t.Text); k >= 0 {
			return in(k)
		}
		k := slices.Index(m.names, t.Text)
		m.wrong = m.wrong || k < 0
		return use(k)
	}
	return m.expr(pieces[0])
}

func (m *namer) call(pieces []found) expr {
	e := expr{op: calledOps[pieces[0].token.Text].op}
	for i := 2; i < len(pieces); i += 2 {
		e.parts = append(e.parts, m.expr(pieces[i]))
	}
	return e
}

func (m *namer) place(pieces []found) expr {
	var at api.Place
	if pieces[0].token.Text == "q" {
		at.Back = numberOf(pieces[2].token)
		m.wrong = m.wrong || at.Back == 0
		pieces = pieces[2:]
	}
	at.X = offsetOf(pieces[2])
	if at.Coords = 1; len(pieces) == 6 {
		at.Coords, at.Y = 2, offsetOf(pieces[4])
	}
	return expr{op: api.OpPlace, at: at}
}

func offsetOf(f found) int {
	if len(f.of) == 2 {
		return -numberOf(f.of[1].token)
	}
	return numberOf(f.of[0].token)
}

func numberOf(t api.Token) int {
	n, ok := lex.Number(t.Text)
	if !ok {
		panic("no number")
	}
	return n
}

// The model of Check: what the nodes' order must be is reckoned from the root and the binds downwards.

// trees are the operators of trees, with how many parts each has.
var trees = map[int]int{
	api.OpNum: 0, api.OpIn: 0, api.OpPlace: 0, api.OpUse: 0, api.OpNeg: 1, api.OpAbs: 1, api.OpSgn: 1,
	api.OpAdd: 2, api.OpSub: 2, api.OpMul: 2, api.OpDiv: 2, api.OpMod: 2, api.OpShl: 2, api.OpShr: 2, api.OpAnd: 2, api.OpOr: 2, api.OpXor: 2,
	api.OpLt: 2, api.OpLe: 2, api.OpGt: 2, api.OpGe: 2, api.OpEq: 2, api.OpNe: 2, api.OpMin: 2, api.OpMax: 2, api.OpClamp: 3, api.OpMed: 3, api.OpSel: 3,
}

var wordForm = regexp.MustCompile(`^[a-z][a-z0-9_]{0,15}$`)

// sound tells whether a tree is sound, as 7.3 says.
func sound(t api.Tree) bool {
	if len(t.Names) != len(t.Binds) || len(t.Nodes) < 1 || len(t.Nodes) > 1024 || t.Root != len(t.Nodes)-1 {
		return false
	}
	for i, name := range t.Names {
		if !wordForm.MatchString(name) || slices.Contains(reservedWords, name) || slices.Contains(t.Names[:i], name) {
			return false
		}
	}
	var order []int
	for i, end := range slices.Concat(t.Binds, []int{t.Root}) {
		if !finish(t, end, i, &order) {
			return false
		}
	}
	for i, n := range order {
		if n != i {
			return false
		}
	}
	return len(order) == len(t.Nodes)
}

// finish notes an expression's nodes in the order in which they are finished; false, if there are too many of them, or a node may not be.
func finish(t api.Tree, n, bound int, order *[]int) bool {
	if n < 0 || n >= len(t.Nodes) || len(*order) > len(t.Nodes) {
		return false
	}
	x := t.Nodes[n]
	parts, ok := trees[x.Op]
	if !ok || !meant(x, bound) {
		return false
	}
	for i, p := range []int{x.A, x.B, x.C} {
		// A part of greater number could never come to an end.
		if i < parts && (p >= n || !finish(t, p, bound, order)) || i >= parts && p != 0 {
			return false
		}
	}
	*order = append(*order, n)
	return true
}

// meant tells whether K and At are as the chapter says.
func meant(x api.Node, bound int) bool {
	const most = 1<<31 - 1
	at := x.At
	switch x.Op {
	case api.OpNum:
		return x.K >= 0 && x.K <= most && at == api.Place{}
	case api.OpIn:
		return x.K >= 0 && x.K <= 5 && at == api.Place{}
	case api.OpUse:
		return x.K >= 0 && x.K < bound && at == api.Place{}
	case api.OpPlace:
		if x.K != 0 || at.Back < 0 || at.Back > most || at.X < -most || at.X > most || at.Y < -most || at.Y > most {
			return false
		}
		return at.Coords == 2 || at.Coords == 1 && at.Y == 0
	}
	return x.K == 0 && at == api.Place{}
}

// told answers a tree as a text.
func told(t api.Tree) string {
	var b strings.Builder
	for i, n := range t.Nodes {
		if i > 12 && i < len(t.Nodes)-3 {
			continue
		}
		fmt.Fprintf(&b, "%d:%+v ", i, n)
	}
	return fmt.Sprintf("%snames %q binds %v root %d", b.String(), t.Names, t.Binds, t.Root)
}

// alike tells whether two trees are alike; a list without elements may be nil or not.
func alike(a, b api.Tree) bool {
	return slices.Equal(a.Names, b.Names) && slices.Equal(a.Binds, b.Binds) && slices.Equal(a.Nodes, b.Nodes) && a.Root == b.Root
}

// holds asks Parse for a tree, and for all that 7.4 says of it.
func holds(t *testing.T, text string, want api.Tree) {
	t.Helper()
	got, e := parse.Parse(text)
	if !alike(got, want) || e != api.OK {
		t.Errorf("Parse(%q) = %s, %d, not %s", text, told(got), e, told(want))
		return
	}
	if e := parse.Check(got); e != api.OK || !sound(got) {
		t.Errorf("Check of the tree of %q: %d", text, e)
	}
	if tokens, _ := lex.Tokens(text); len(got.Nodes) > len(tokens) {
		t.Errorf("%q has %d tokens and %d nodes", text, len(tokens), len(got.Nodes))
	}
}

// refused asks Parse for ErrSyntax, and nothing beside it.
func refused(t *testing.T, text string) {
	t.Helper()
	if got, e := parse.Parse(text); e != api.ErrSyntax || !alike(got, api.Tree{}) {
		t.Errorf("Parse(%q) = %s, %d, not ErrSyntax", text, told(got), e)
	}
}

// modelled holds Parse against the model.
func modelled(t *testing.T, text string) {
	t.Helper()
	want, ok := model(text)
	if !ok {
		refused(t, text)
		return
	}
	holds(t, text, want)
}

// checked holds Check against its model, and asks that it leaves the tree as it is.
func checked(t *testing.T, x api.Tree) {
	t.Helper()
	before := copied(x)
	want := api.ErrForm
	if sound(x) {
		want = api.OK
	}
	if e := parse.Check(x); e != want {
		t.Errorf("Check(%s) = %d, not %d", told(x), e, want)
	}
	if !reflect.DeepEqual(before, copied(x)) {
		t.Errorf("Check changed %s", told(before))
	}
}

// unsound asks Check for ErrForm.
func unsound(t *testing.T, why string, x api.Tree) {
	t.Helper()
	if e := parse.Check(x); e != api.ErrForm || sound(x) {
		t.Errorf("%s: Check(%s) = %d, not ErrForm", why, told(x), e)
	}
}

// copied answers a tree that shares no memory with another.
func copied(x api.Tree) api.Tree {
	return api.Tree{Names: slices.Clone(x.Names), Binds: slices.Clone(x.Binds), Nodes: slices.Clone(x.Nodes), Root: x.Root}
}

// treeOf answers the tree of a text that has one.
func treeOf(t *testing.T, text string) api.Tree {
	t.Helper()
	x, e := parse.Parse(text)
	if e != api.OK {
		t.Fatalf("Parse(%q): %d", text, e)
	}
	return x
}
