package rill_test

import (
	"math"
	"slices"
	"strings"
	"testing"

	"cloister/api"
	"cloister/rill"
)

// wantNone asks that this is no tree.
func wantNone(t *testing.T, x api.Term) {
	t.Helper()
	if e := rill.Check(x); e != api.ErrRillTree {
		t.Errorf("Check(%+v) = %d", x, e)
	}
	if s, e := rill.Print(x); s != "" || e != api.ErrRillTree {
		t.Errorf("Print(%+v) = %q, %d", x, s, e)
	}
	holdTree(t, x)
}

// someTerms are statements and values, one of each kind, as they may be; with a an array, f a function of one
// value, x a variable.
func someTerms() map[api.TermKind]api.Term {
	one := number(1)
	return map[api.TermKind]api.Term{
		api.TermVar:     term(api.TermVar, "y", one),
		api.TermSet:     term(api.TermSet, "x", one),
		api.TermPut:     term(api.TermPut, "a", one, one),
		api.TermIf:      term(api.TermIf, "", one, block(), block()),
		api.TermWhile:   rounds(3, one, block()),
		api.TermForever: term(api.TermForever, "", block()),
		api.TermReturn:  term(api.TermReturn, "", one),
		api.TermDo:      do(one),
		api.TermNumber:  one,
		api.TermName:    named("x"),
		api.TermAt:      term(api.TermAt, "a", one),
		api.TermCall:    call("f", one),
		api.TermUnary:   term(api.TermUnary, "-", one),
		api.TermBinary:  term(api.TermBinary, "+", one, one),
	}
}

// holding is a program with this statement, and perhaps others behind it.
func holding(statements ...api.Term) api.Term {
	l := append([]api.Term{term(api.TermVar, "x", number(1))}, statements...)
	return program(array("a", 3), function("f", named("p"), block()), function("main", block(l...)))
}

// isValueKind: of all but statements.
func isValueKind(k api.TermKind) bool { return k >= api.TermNumber }

// TestWhereTermsStand: statements and values in their places, and no others.
func TestWhereTermsStand(t *testing.T) {
	for k, x := range someTerms() {
		inDo, inIf := holding(do(x)), holding(term(api.TermIf, "", x, block()))
		inPut := holding(term(api.TermPut, "a", number(1), x))
		if isValueKind(k) {
			for _, p := range []api.Term{inDo, inIf, inPut} {
				if e := rill.Check(p); e != api.OK {
					t.Errorf("kind %d: Check = %d", k, e)
				}
				holdTree(t, p)
			}
			wantNone(t, holding(x))
		} else {
			wantNone(t, inDo)
			wantNone(t, inIf)
			wantNone(t, inPut)
			if e := rill.Check(holding(x)); e != api.OK {
				t.Errorf("kind %d: Check = %d", k, e)
			}
			holdTree(t, holding(x))
		}
		for _, p := range []api.Term{x, program(x), program(function("main", x)), program(function("main", block(), x)), program(function("main", x, block())), program(term(api.TermArray, "a", x)), holding(term(api.TermForever, "", x)), holding(rounds(1, number(1), x)), holding(rounds(1, x, x)), holding(term(api.TermIf, "", number(1), block(), x))} {
			if k == api.TermName && p.Kids != nil && len(p.Kids) == 1 && len(p.Kids[0].Kids) == 2 && p.Kids[0].Kids[0].Kind == k {
				continue // a parameter
			}
			wantNone(t, p)
		}
	}
	for _, k := range []api.Term{array("b", 1), function("g", block()), program(), block()} {
		wantNone(t, holding(k))
		wantNone(t, holding(do(k)))
		wantNone(t, program(function("main", k, block())))
		if k.Kind != api.TermBlock {
			wantNone(t, program(function("main", k)))
			wantNone(t, holding(rounds(1, number(1), k)))
		}
	}
	wantNone(t, program(function("main", block()), array("a", 1)))
	wantNone(t, program(array("a", 1), function("f", block()), array("b", 1), function("main", block())))
	wantNone(t, program(program(function("main", block()))))
	wantNone(t, program(block()))
}

// changed is a copy with something else at the first term of this kind, in the
// order of the tree.
func changed(t api.Term, k api.TermKind, change func(*api.Term)) api.Term {
	done := false
	var walk func(api.Term) api.Term
	walk = func(t api.Term) api.Term {
		if t.Kids != nil {
			t.Kids = slices.Clone(t.Kids)
		}
		if t.Kind == k && !done {
			done = true
			change(&t)
			return t
		}
		for i := range t.Kids {
			t.Kids[i] = walk(t.Kids[i])
		}
		return t
	}
	return walk(t)
}

// whole has each kind of term.
func whole() api.Term {
	all := someTerms()
	l := []api.Term{all[api.TermVar], all[api.TermSet], all[api.TermPut], all[api.TermIf], all[api.TermWhile], all[api.TermReturn]}
	for k := api.TermNumber; k <= api.TermBinary; k++ {
		l = append(l, do(all[k]))
	}
	return holding(append(l, all[api.TermForever])...)
}

// TestFormsOfTerms: of each kind its Text, its N, how many Kids it has.
func TestFormsOfTerms(t *testing.T) {
	const name, builtIn, none = "NAME", "NAME or built-in", ""
	texts := map[api.TermKind]string{
		api.TermArray: name, api.TermFunction: name, api.TermVar: name, api.TermSet: name, api.TermPut: name, api.TermName: name, api.TermAt: name,
		api.TermCall: builtIn, api.TermUnary: "unary", api.TermBinary: "binary",
	}
	forms := map[string][]string{
		name: {"x", "q", "_", "abcdefghijklmnop", "Say"}, builtIn: {"f", "say", "told", "q", "main"}, "unary": {"-", "~", "!"}, none: {""},
		"binary": strings.Fields("|| && | ^ & == != < <= > >= << >> + - * / %"),
	}
	others := []string{"", " ", "x", "say", "told", "if", "return", "1", "-", "~", "!", "+", "==", "=", "(", ")", ";", ",", "[", "{", "=<", "&&&", "x ", " x", "x y", "abcdefghijklmnopq", "é", "x\x00", "#", "\n", "--", "- ", "+ ", strings.Repeat("a", 100000)}
	for k := api.TermProgram; k <= api.TermBinary; k++ {
		if e := rill.Check(whole()); e != api.OK {
			t.Fatalf("Check = %d", e)
		}
		form := texts[k]
		for _, text := range forms[form] {
			x := changed(whole(), k, func(t *api.Term) { t.Text = text })
			if e := rill.Check(x); e == api.ErrRillTree {
				t.Errorf("kind %d: %q may be", k, text)
			}
			holdTree(t, x)
		}
		for _, text := range others {
			may := form == name && modelIsName(text) || form == builtIn && (modelIsName(text) || slices.Contains(modelBuiltIns, text)) || slices.Contains(forms[form], text)
			if !may {
				wantNone(t, changed(whole(), k, func(t *api.Term) { t.Text = text }))
			}
		}
		for _, n := range []int32{1, -1, 7, math.MaxInt32, math.MinInt32} {
			x := changed(whole(), k, func(t *api.Term) { t.N = n })
			if k == api.TermArray || k == api.TermWhile || k == api.TermNumber {
				if e := rill.Check(x); e == api.ErrRillTree {
					t.Errorf("kind %d: %d may be", k, n)
				}
				holdTree(t, x)
			} else {
				wantNone(t, x)
			}
		}
	}
}

// TestKidsOfTerms: how many they are.
func TestKidsOfTerms(t *testing.T) {
	one := number(1)
	for n := range 5 {
		values := slices.Repeat([]api.Term{one}, n)
		blocks := slices.Repeat([]api.Term{block()}, n)
		for k, want := range map[api.TermKind]int{api.TermVar: 1, api.TermSet: 1, api.TermPut: 2, api.TermReturn: 1, api.TermDo: 1} {
			x := someTerms()[k]
			x.Kids = values
			holdShape(t, holding(x), n == want)
		}
		for k, want := range map[api.TermKind]int{api.TermNumber: 0, api.TermName: 0, api.TermAt: 1, api.TermUnary: 1, api.TermBinary: 2, api.TermCall: n} {
			x := someTerms()[k]
			x.Kids = values
			holdShape(t, holding(do(x)), n == want)
		}
		holdShape(t, holding(term(api.TermForever, "", blocks...)), n == 1)
		holdShape(t, holding(term(api.TermIf, "", append([]api.Term{one}, blocks...)...)), n == 1 || n == 2)
		holdShape(t, holding(term(api.TermIf, "", blocks...)), false)
		holdShape(t, holding(api.Term{Kind: api.TermWhile, N: 1, Kids: append([]api.Term{one}, blocks...)}), n == 1)
		holdShape(t, holding(api.Term{Kind: api.TermWhile, N: 1, Kids: append([]api.Term{one, one}, blocks...)}), false)
		holdShape(t, program(api.Term{Kind: api.TermArray, Text: "a", N: 1, Kids: values}, function("main", block())), n == 0)
		holdShape(t, program(function("f", append(slices.Repeat([]api.Term{named("p")}, n), block())...), function("main", block())), true)
		holdShape(t, program(function("f", slices.Repeat([]api.Term{named("p")}, n)...), function("main", block())), false)
		holdShape(t, program(function("f", blocks...), function("main", block())), n == 1)
	}
	p := named("p")
	p.Kids = []api.Term{one}
	wantNone(t, program(function("f", p, block()), function("main", block())))
	wantNone(t, program(function("f", one, block()), function("main", block())))
	wantNone(t, program(function("f", named("say"), block()), function("main", block())))
	p = named("p")
	p.N = 1
	wantNone(t, program(function("f", p, block()), function("main", block())))
}

func holdShape(t *testing.T, x api.Term, is bool) {
	t.Helper()
	if e := rill.Check(x); is != (e != api.ErrRillTree) {
		t.Errorf("Check(%+v) = %d", x, e)
	}
	holdTree(t, x)
}

// TestKindsThatAreNone: whatever number, wherever.
func TestKindsThatAreNone(t *testing.T) {
	for _, k := range []api.TermKind{0, -1, 19, 20, 99, math.MaxInt, math.MinInt, 1 << 32, 1<<32 + 1} {
		none := api.Term{Kind: k}
		for _, x := range []api.Term{none, program(none), program(function("f", none)), program(function("f", none, block())), holding(none), holding(do(none)), holding(term(api.TermIf, "", number(1), none)), holding(do(call("say", none)))} {
			wantNone(t, x)
		}
		for own := api.TermProgram; own <= api.TermBinary; own++ {
			wantNone(t, changed(whole(), own, func(t *api.Term) { t.Kind = k }))
		}
	}
	wantNone(t, api.Term{})
}

// TestTreeAheadOfAll: what is no tree is told so, wherever that shows, and whatever
// else is wrong.
func TestTreeAheadOfAll(t *testing.T) {
	deep := api.Term{Kind: api.TermNumber, Text: "x"}
	for range 100000 {
		deep = term(api.TermUnary, "-", deep)
	}
	if e := rill.Check(holding(do(deep))); e != api.ErrRillTree {
		t.Errorf("Check of a deep tree = %d", e)
	}
	many := slices.Repeat([]api.Term{do(number(1))}, 100000)
	if e := rill.Check(mainOf(many...)); e != api.ErrRillDeep {
		t.Errorf("Check of a broad tree = %d", e)
	}
	many[len(many)-1] = number(1)
	if e := rill.Check(mainOf(many...)); e != api.ErrRillTree {
		t.Errorf("Check of a broad tree = %d", e)
	}
	many[len(many)-1] = term(api.TermForever, "", block())
	if e := rill.Check(mainOf(many...)); e != api.ErrRillDeep {
		t.Errorf("Check of a broad tree = %d", e)
	}
	many[len(many)-2] = term(api.TermForever, "", block())
	if e := rill.Check(mainOf(many...)); e != api.ErrRillTree {
		t.Errorf("Check of a broad tree = %d", e)
	}
	wantNone(t, program(array("a", 0), array("a", 0), function("f", named("x"), named("x"), block(do(number(1)), number(1)))))
	wantNone(t, program(function("f", block(do(call("f")))), function("main", block(term(api.TermForever, "", block()), do(call("main"))))))
}

// TestSharedLists: a list may stand at several places, and within itself.
func TestSharedLists(t *testing.T) {
	// Each level has the one below twice: there would be 2 to the 200 terms.
	sum := func(inner api.Term, levels int) api.Term {
		for range levels {
			inner = term(api.TermBinary, "+", inner, inner)
		}
		return inner
	}
	if e := rill.Check(holding(do(sum(number(1), 8)))); e != api.OK {
		t.Errorf("Check = %d", e)
	}
	holdTree(t, holding(do(sum(number(1), 8))))
	for _, levels := range []int{12, 30, 200} {
		if e := rill.Check(holding(do(sum(number(1), levels)))); e != api.ErrRillDeep {
			t.Errorf("%d levels: Check = %d", levels, e)
		}
		if e := rill.Check(holding(do(sum(named("if"), levels)))); e != api.ErrRillTree {
			t.Errorf("%d levels: Check = %d", levels, e)
		}
	}
	own := []api.Term{term(api.TermUnary, "-")}
	own[0].Kids = own
	if e := rill.Check(holding(do(own[0]))); e != api.ErrRillDeep {
		t.Errorf("Check of what has itself within = %d", e)
	}
	blocks := make([]api.Term, 3)
	for i := range blocks {
		blocks[i] = term(api.TermIf, "", number(1), block(blocks...))
		blocks[i].Kids[1].Kids = blocks
	}
	if e := rill.Check(mainOf(blocks...)); e != api.ErrRillDeep {
		t.Errorf("Check of what has itself within = %d", e)
	}
	if s, e := rill.Print(mainOf(blocks...)); s != "" || e != api.ErrRillDeep {
		t.Errorf("Print of what has itself within = %d bytes, %d", len(s), e)
	}
	blocks[2] = number(1)
	if e := rill.Check(mainOf(blocks...)); e != api.ErrRillTree {
		t.Errorf("Check of what has itself within = %d", e)
	}
	// A block of the last function, where a forever may stand, and of another one.
	forever := []api.Term{block(term(api.TermForever, "", block()))}
	if e := rill.Check(program(function("f", block()), term(api.TermFunction, "main", forever...))); e != api.OK {
		t.Errorf("Check = %d", e)
	}
	if e := rill.Check(program(term(api.TermFunction, "f", forever...), term(api.TermFunction, "main", forever...))); e != api.ErrRillTree {
		t.Errorf("Check = %d", e)
	}
	shared := []api.Term{term(api.TermForever, "", block())}
	if e := rill.Check(mainOf(term(api.TermIf, "", number(1), block(shared...)), shared[0])); e != api.ErrRillTree {
		t.Errorf("Check = %d", e)
	}
}
