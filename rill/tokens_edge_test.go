package rill_test

import (
	"fmt"
	"strings"
	"testing"

	"cloister/api"
	"cloister/rill"
)

// TestEachByte: where a statement may begin, and behind each kind of token.
func TestEachByte(t *testing.T) {
	t.Parallel()
	const begins = "(){}[],;=<>!+-*/%&|^~#_0123456789abcdefghijklmnopqrstuvwxyzABCDEFGHIJKLMNOPQRSTUVWXYZ \t\n\r"
	for c := range 256 {
		b := string([]byte{byte(c)})
		holdParse(t, b)
		holdParse(t, in(b))
		for _, ahead := range []string{"x", "if", "1", "0", "0x", "0x1f", "<", "=", "&", "|", "!", ">", "say", "say(1)", "#", "-", ")", "]"} {
			holdParse(t, in(ahead+b))
			holdParse(t, in(ahead+b+"1;"))
		}
		_, e, at := rill.Parse(in(b))
		if is := e == api.ErrRillToken && at == 14; is == strings.Contains(begins, b) {
			t.Errorf("Parse(%q) = %d, %d", in(b), e, at)
		}
	}
}

// TestPairsOfBytes: what goes together, and what does not.
func TestPairsOfBytes(t *testing.T) {
	t.Parallel()
	const some = "(){}[],;=<>!+-*/%&|^~#_0x9fgA \n\r\x00\v@"
	for i := range some {
		for j := range some {
			holdParse(t, "array a[9]; "+in("var x = 1; x "+some[i:i+1]+some[j:j+1]+"x;"))
			holdParse(t, some[i:i+1]+some[j:j+1])
		}
	}
}

// TestNumbers: what they are, or why not.
func TestNumbers(t *testing.T) {
	for s, want := range map[string]uint32{
		"0": 0, "1": 1, "9": 9, "10": 10, "4294967295": 1<<32 - 1, "2147483647": 1<<31 - 1, "2147483648": 1 << 31,
		"0x0": 0, "0x1": 1, "0xa": 10, "0xf": 15, "0x10": 16, "0xffffffff": 1<<32 - 1, "0x00": 0, "0x0000000000000000000000001f": 31, "0x7fffffff": 1<<31 - 1, "0x80000000": 1 << 31, "0xdeadbeef": 0xdeadbeef,
	} {
		for _, behind := range []string{"", " ", "#\n", "\r"} {
			x := parsed(t, in(s+behind+";"))
			if n := x.Kids[0].Kids[0].Kids[0].Kids[0].N; n != int32(want) {
				t.Errorf("%s is %d, want %d", s, n, int32(want))
			}
		}
		holdParse(t, in(s+";"))
	}
	for s, e := range map[string]api.Errno{
		"4294967296": api.ErrRillRange, "9999999999": api.ErrRillRange, "18446744073709551616": api.ErrRillRange, "18446744073709551615": api.ErrRillRange, strings.Repeat("9", 400): api.ErrRillRange,
		"0x100000000": api.ErrRillRange, "0x0100000000": api.ErrRillRange, "0x10000000000000000": api.ErrRillRange, "0x" + strings.Repeat("f", 400): api.ErrRillRange,
		"00": api.ErrRillToken, "01": api.ErrRillToken, "007": api.ErrRillToken, "0x": api.ErrRillToken, "0x ": api.ErrRillToken, "0xg": api.ErrRillToken, "0xA": api.ErrRillToken, "0x1A": api.ErrRillToken, "0x1g": api.ErrRillToken, "0X1": api.ErrRillToken, "0b1": api.ErrRillToken, "0o1": api.ErrRillToken,
		"1_000": api.ErrRillToken, "1a": api.ErrRillToken, "1x": api.ErrRillToken, "0_": api.ErrRillToken, "0x_1": api.ErrRillToken, "0x1_": api.ErrRillToken, "4294967296x": api.ErrRillToken, "4294967296_": api.ErrRillToken, "1e3": api.ErrRillToken, "0x100000000g": api.ErrRillToken,
	} {
		wantParse(t, in(s+";"), e, 14)
		wantParse(t, in("say("+s+");"), e, 18)
		wantParse(t, in("say "+s+";"), e, 18) // wrong as a token, ahead of standing wrong
		wantParse(t, in("say ) "+s+";"), api.ErrRillSyntax, 18)
		wantParse(t, in("say(1) # "+s+"\n;"), api.OK, 0)
	}
	wantParse(t, in("1.5;"), api.ErrRillToken, 15)
	wantParse(t, in("1\xc3\xa9;"), api.ErrRillToken, 15)
	wantParse(t, in("1 1;"), api.ErrRillSyntax, 16)
	wantParse(t, in("- 1;"), api.OK, 0)
}

// TestNumbersOfArraysAndLoops have 32 bits too.
func TestNumbersOfArraysAndLoops(t *testing.T) {
	wantParse(t, " array a[4294967295]; "+in(""), api.ErrRillRange, 1)
	wantParse(t, "array a[4294967296]; "+in(""), api.ErrRillRange, 8)
	wantParse(t, "array a[0x1]; "+in("while 1 bound 0x10000 { }"), api.OK, 0)
	wantParse(t, "array a[-1]; "+in(""), api.ErrRillSyntax, 8)
	wantParse(t, "array a[]; "+in(""), api.ErrRillSyntax, 8)
	wantParse(t, "array a[(1)]; "+in(""), api.ErrRillSyntax, 8)
	wantParse(t, in("while 1 bound 4294967295 { }"), api.ErrRillRange, 14)
	wantParse(t, in("while 1 bound 4294967296 { }"), api.ErrRillRange, 28)
	wantParse(t, in("while 1 bound 1 + 1 { }"), api.ErrRillSyntax, 30)
}

// places are a NAME's, each with its place at the mark.
var places = []string{"array @[1]; func main() { }", "func @() { } func main() { }", "func f(@) { } func main() { }", "func f(p, @, q) { } func main() { }", "func main() { var @ = 1; }"}

// uses are those of a name that is declared ahead.
var uses = []string{"func main() { var @ = 1; @ = 2; }", "func main() { var @ = 1; @; }", "array @[1]; func main() { @[0] = 1; }", "array @[1]; func main() { @[0]; }", "func @() { } func main() { @(); }", "func f(@) { @ = @; } func main() { }"}

// TestNames: from 1 to 16 bytes, neither keywords nor built-ins.
func TestNames(t *testing.T) {
	good := []string{"a", "Z", "_", "__", "a1", "x_", "abcdefghijklmnop", "ABCDEFGHIJKLMNO_", "_234567890123456", "Array", "IF", "iff", "says", "say_", "_say", "who1", "Main", "mains", "mask0", "end", "x", "int", "for", "true"}
	wrong := []string{"abcdefghijklmnopq", "_2345678901234567", strings.Repeat("a", 1000), "1", "0", "=", ";", "-"}
	wrong = append(append(wrong, modelKeywords...), modelBuiltIns...)
	for _, p := range places {
		at := strings.Index(p, "@")
		for _, name := range good {
			wantOK(t, strings.Replace(p, "@", name, 1))
		}
		for _, name := range wrong {
			wantParse(t, strings.Replace(p, "@", name, 1), api.ErrRillSyntax, at)
		}
	}
	for _, u := range uses {
		for _, name := range good {
			wantOK(t, strings.ReplaceAll(u, "@", name))
		}
	}
	for _, name := range wrong[:3] {
		wantParse(t, in(name+";"), api.ErrRillSyntax, 14)
		wantParse(t, in(name+"(1);"), api.ErrRillSyntax, 14)
		wantParse(t, in("1 + "+name+"[1];"), api.ErrRillSyntax, 18)
	}
}

// TestBuiltIns stand ahead of their brackets alone.
func TestBuiltIns(t *testing.T) {
	takes := map[string]int{"who": 0, "left": 0, "clock": 0, "wait": 0, "halt": 0, "pending": 0, "told": 0, "say": 1, "mask": 1, "read": 1, "recv": 1, "write": 2, "send": 2}
	for _, b := range modelBuiltIns {
		want, there := takes[b]
		if !there {
			t.Fatalf("%s is not asked", b)
		}
		n := 14 + len(b)
		wantParse(t, in(b+";"), api.ErrRillSyntax, n)
		wantParse(t, in(b+" = 1;"), api.ErrRillSyntax, n+1)
		wantParse(t, in(b+"[1];"), api.ErrRillSyntax, n)
		wantParse(t, in(b+"[1] = 1;"), api.ErrRillSyntax, n)
		wantParse(t, in("1 + "+b+" + 1;"), api.ErrRillSyntax, n+5)
		for values := range 4 {
			list := strings.TrimSuffix(strings.Repeat("1, ", values), ", ")
			e := api.OK
			if values != want {
				e = api.ErrRillCount
			}
			wantParse(t, in(fmt.Sprintf("-%s(%s);", b, list)), e, map[bool]int{true: 0, false: 15}[e == api.OK])
		}
	}
	if len(takes) != len(modelBuiltIns) {
		t.Errorf("%d built-ins are asked", len(takes))
	}
}

// TestComments reach up to the end of the line, whatever is in them.
func TestComments(t *testing.T) {
	for _, c := range []string{"#", "##", "# x", "#\x00\xff\v\"@", "# }", "#\r", "# 4294967296 1x", "#\t;", "#\r}", "#\f", "# \u2028 }"} {
		wantOK(t, in("say(1);")+c)
		wantOK(t, c+"\n"+in("say("+c+"\n1)"+c+"\n;"))
		wantParse(t, "func main() { "+c, api.ErrRillSyntax, 14+len(c))
		wantParse(t, "func main() { "+c+"\n", api.ErrRillSyntax, 15+len(c))
		wantParse(t, "func main() {"+c+"\n} x", api.ErrRillSyntax, 16+len(c))
	}
	wantParse(t, in("say(1)#\n#\n2;"), api.ErrRillSyntax, 24)
}

// TestBlanks are four bytes, and no other one.
func TestBlanks(t *testing.T) {
	for _, b := range []string{" ", "\t", "\n", "\r", " \t\r\n "} {
		wantOK(t, b+strings.Join([]string{"func", "main", "(", ")", "{", "say", "(", "1", ")", ";", "}"}, b)+b)
	}
	for _, b := range []string{"\v", "\f", "\x00", "\x1f", "\x7f", "\x85", "\u00a0", "\ufeff"} {
		wantParse(t, b+in(""), api.ErrRillToken, 0)
		wantParse(t, in(b), api.ErrRillToken, 14)
		wantParse(t, in("")+b, api.ErrRillToken, 16)
	}
	for s, at := range map[string]int{"funcmain() { }": 0, "func main( ) { say(1) ; }": -1, "func main() { varx = 1; }": 14, "func main() { if1 { } }": 18, "func main() { return1; }": 14} {
		switch {
		case at < 0:
			wantOK(t, s)
		case at == 18 || at == 0:
			wantParse(t, s, api.ErrRillSyntax, at)
		default:
			wantParse(t, s, api.ErrRillName, at)
		}
	}
	wantOK(t, "func main(){if(1){}else{}while(1)bound 1{}return(1);return-1;}")
}

// TestSigns are as long as may be.
func TestSigns(t *testing.T) {
	for s, at := range map[string]int{"1 &&& 2;": 18, "1 === 2;": 18, "1 <<< 2;": 18, "1 ||| 2;": 18, "1 <=> 2;": 18, "1 <<= 2;": 18, "1 != = 2;": 19, "1 ! = 2;": 16, "1 < = 2;": 18, "1 ** 2;": 17, "1 ++ 2;": 17, "1 => 2;": 16, "1 < < 2;": 18, "x =+ 1;": 17, "1 //2;": 17, "1 & & 2;": 18} {
		wantParse(t, in(s), api.ErrRillSyntax, at)
	}
	for _, s := range []string{"1--1;", "1-!1;", "1<-1;", "1&~1;", "1&&!1;", "1!=!1;", "1!=-1;", "1==-1;", "1|-1;", "1||-1;", "1>>-1;", "!!1;", "~~1;", "--1;", "1<=~1;"} {
		wantOK(t, in(s))
	}
	wantOK(t, in("var x=-1;x=!x;x=~x;"))
}
