package mean_test

import (
	"fmt"
	"math/rand"
	"strings"
	"testing"

	"cloister/api"
)

// edges are the numbers at which signs do something else.
var edges = []uint32{0, 1, 2, 3, 7, 31, 32, 33, 63, 64, 255, 256, 65535, 65536, 65537, 2147483646, 2147483647, 2147483648, 2147483649, 4294967263, 4294967264, 4294967292, 4294967294, 4294967295}

var (
	unarySigns  = []string{"-", "~", "!"}
	binarySigns = []string{"+", "-", "*", "/", "%", "&", "|", "^", "<<", ">>", "==", "!=", "<", "<=", ">", ">=", "&&", "||"}
)

// TestSigns: each row of the table by hand.
func TestSigns(t *testing.T) {
	for s, want := range map[string]uint32{
		"-1": 4294967295, "-0": 0, "-4294967295": 1, "-2147483648": 2147483648, "--5": 5,
		"~0": 4294967295, "~4294967295": 0, "~5": 4294967290, "~~5": 5,
		"!0": 1, "!1": 0, "!4294967295": 0, "!!7": 1, "!256": 0,
		"2 + 3": 5, "4294967295 + 1": 0, "2147483648 + 2147483648": 0, "4294967295 + 4294967295": 4294967294,
		"2 - 3": 4294967295, "3 - 2": 1, "0 - 4294967295": 1, "0 - 2147483648": 2147483648,
		"3 * 5": 15, "65536 * 65536": 0, "4294967295 * 4294967295": 1, "2147483648 * 3": 2147483648, "65537 * 65535": 4294967295,
		"7 / 2": 3, "4294967295 / 2": 2147483647, "-7 / 2": 2147483644, "5 / 0": 4294967295, "0 / 0": 4294967295, "0 / 5": 0, "5 / 4294967295": 0, "2147483648 / 4294967295": 0, "4294967295 / 4294967295": 1,
		"7 % 2": 1, "-7 % 4": 1, "5 % 0": 5, "0 % 0": 0, "4294967295 % 0": 4294967295, "4294967295 % 4294967294": 1, "2147483648 % 4294967295": 2147483648,
		"12 & 10": 8, "12 | 10": 14, "12 ^ 10": 6, "4294967295 & 2147483648": 2147483648, "4294967295 ^ 1": 4294967294, "2 & 1": 0, "2 | 1": 3,
		"1 << 0": 1, "1 << 31": 2147483648, "1 << 32": 1, "1 << 33": 2, "3 << 31": 2147483648, "1 << 4294967295": 2147483648, "5 << 64": 5,
		"4294967295 >> 31": 1, "2147483648 >> 1": 1073741824, "8 >> 32": 8, "8 >> 35": 1, "1 >> 1": 0, "4294967295 >> 4294967295": 1,
		"3 == 3": 1, "3 == 4": 0, "0 == 4294967295": 0, "3 != 3": 0, "3 != 4": 1,
		"3 < 4": 1, "4 < 4": 0, "5 < 4": 0, "4294967295 < 0": 1, "0 < 4294967295": 0, "2147483647 < 2147483648": 0, "2147483648 < 2147483647": 1, "2147483648 < 4294967295": 1,
		"3 <= 4": 1, "4 <= 4": 1, "5 <= 4": 0, "4294967295 <= 0": 1, "0 <= 4294967295": 0, "2147483648 <= 2147483648": 1,
		"3 > 4": 0, "4 > 4": 0, "5 > 4": 1, "4294967295 > 0": 0, "0 > 4294967295": 1, "2147483647 > 2147483648": 1,
		"3 >= 4": 0, "4 >= 4": 1, "5 >= 4": 1, "4294967295 >= 0": 0, "0 >= 4294967295": 1, "2147483648 >= 2147483647": 0,
		"0 && 0": 0, "0 && 5": 0, "5 && 0": 0, "5 && 7": 1, "4 && 3": 1, "4294967295 && 2147483648": 1,
		"0 || 0": 0, "0 || 5": 1, "5 || 0": 1, "5 || 7": 1, "2147483648 || 0": 1, "0 || 2147483648": 1,
		"0": 0, "4294967295": 4294967295, "0x80000000": 2147483648, "0x7fffffff": 2147483647,
	} {
		wantSaid(t, fmt.Sprintf("say(%s);", s), want)
	}
}

// TestSignsAtEdges holds each sign against the model.
func TestSignsAtEdges(t *testing.T) {
	for _, a := range edges {
		for _, sign := range unarySigns {
			wantSaid(t, fmt.Sprintf("var a = %d; say(%sa); say(%s%d);", a, sign, sign, a), modelUnary(sign, a), modelUnary(sign, a))
		}
		for _, sign := range binarySigns {
			var s strings.Builder
			var want []uint32
			for _, b := range edges {
				fmt.Fprintf(&s, "say(%d %s %d); ", a, sign, b)
				want = append(want, tellBinary(sign, a, b))
			}
			wantSaid(t, s.String(), want...)
		}
	}
}

// tellBinary is what it comes to, whether or not the right value is asked.
func tellBinary(sign string, a, b uint32) uint32 {
	switch {
	case sign == "&&" && a == 0:
		return 0
	case sign == "||" && a != 0:
		return 1
	}
	return modelBinary(sign, a, b)
}

// reckoner makes values, and reckons beside that what each one comes to.
type reckoner struct {
	random *rand.Rand
	names  map[string]uint32
}

func (r *reckoner) value(depth int) (string, uint32) {
	switch n := r.random.Intn(8); {
	case depth == 0 || n == 0:
		a := edges[r.random.Intn(len(edges))]
		if r.random.Intn(3) == 0 {
			a = r.random.Uint32() >> r.random.Intn(32)
		}
		return fmt.Sprint(a), a
	case n == 1:
		name := fmt.Sprint("v", r.random.Intn(len(r.names)))
		return name, r.names[name]
	case n == 2:
		sign := unarySigns[r.random.Intn(3)]
		s, a := r.value(depth - 1)
		return fmt.Sprintf("%s(%s)", sign, s), modelUnary(sign, a)
	}
	sign := binarySigns[r.random.Intn(len(binarySigns))]
	s, a := r.value(depth - 1)
	z, b := r.value(depth - 1)
	return fmt.Sprintf("(%s) %s (%s)", s, sign, z), tellBinary(sign, a, b)
}

// TestReckoned: whoever reckons outside as the tables say comes to what is said.
func TestReckoned(t *testing.T) {
	t.Parallel()
	random := rand.New(rand.NewSource(2801))
	for range 1000 {
		r := &reckoner{random, map[string]uint32{}}
		var s strings.Builder
		var want []uint32
		for i := range 3 {
			a := edges[random.Intn(len(edges))]
			name := fmt.Sprint("v", i)
			r.names[name] = a
			fmt.Fprintf(&s, "var %s = %d; ", name, a)
		}
		for range 4 {
			value, n := r.value(4)
			name := fmt.Sprint("v", random.Intn(3))
			r.names[name] = n
			fmt.Fprintf(&s, "%s = %s; say(%s); ", name, value, name)
			want = append(want, n)
		}
		got := run(parsed(t, in(s.String())), 4000, nil)
		for i, n := range want {
			if got.e != api.OK || got.calls[i] != fmt.Sprintf("8(%d)", n) {
				t.Fatalf("%s: %s, want %d", s.String(), got, want)
			}
		}
	}
}

// TestWhatIsAsked: of && and || the right value only if it matters, of all others
// both, whatever they are; all from the left.
func TestWhatIsAsked(t *testing.T) {
	for _, sign := range binarySigns {
		for _, left := range edges {
			steps, asked := 7, "8(1) 8(2)"
			if sign == "&&" && left == 0 || sign == "||" && left != 0 {
				steps, asked = 5, "8(1)"
			}
			want := fmt.Sprintf("%d %s 8(%d)", steps, asked, tellBinary(sign, left, 5))
			wantRun(t, in(fmt.Sprintf("say(say(1) %s say(2));", sign)), want, left, 5)
		}
	}
	wantRun(t, in("say(1) && say(2) || say(3);"), "7 8(1) 8(3)", 0, 1)
	wantRun(t, in("say(1) && say(2) || say(3);"), "7 8(1) 8(2)", 1, 1)
	wantRun(t, in("say(1) || say(2) && say(3);"), "4 8(1)", 1, 1)
	wantRun(t, in("say(1) || say(2) && say(3);"), "7 8(1) 8(2)", 0, 0)
	wantRun(t, in("say(1) - say(2) - say(3);"), "9 8(1) 8(2) 8(3)", 1, 1)
	wantRun(t, in("say(1) - (say(2) - say(3));"), "9 8(1) 8(2) 8(3)", 1, 1)
	wantRun(t, in("-say(1) * ~say(2);"), "8 8(1) 8(2)", 1, 1)
}

// TestBuiltIns: just these calls, with just these arguments.
func TestBuiltIns(t *testing.T) {
	wantRun(t, in("say(say(7));"), "4 8(7) 8(9)", 9)
	wantRun(t, in("say(who());"), "3 7() 8(9)", 9)
	wantRun(t, in("say(left());"), "3 9() 8(9)", 9)
	wantRun(t, in("say(pending());"), "3 6() 8(9)", 9)
	wantRun(t, in("say(wait());"), "3 10() 8(9)", 9)
	wantRun(t, in("say(clock());"), "3 100() 8(9)", 9)
	wantRun(t, in("say(mask(7));"), "4 5(7) 8(9)", 9)
	wantRun(t, in("say(write(7, 8));"), "5 1(7,8) 8(9)", 9)
	wantRun(t, in("say(send(7, 8));"), "5 3(7,8) 8(9)", 9)
	wantRun(t, in("say(told());"), "3 8(0)", 9)
	wantRun(t, in("say(halt());"), "3 11()", 9)
	wantRun(t, in("say(4294967295); mask(4294967295); write(4294967295, 2147483648); read(4294967295);"), "13 8(4294967295) 5(4294967295) 1(4294967295,2147483648) 2(4294967295)")
	wantRun(t, in("write(say(1), say(2)); send(say(3), say(4));"), "12 8(1) 8(2) 1(10,20) 8(3) 8(4) 3(30,40)", 10, 20, 0, 30, 40)
	wantRun(t, in("say(4294967295 + 1);"), "5 8(0)")
}

// TestMessages: there is a second call just if the first answer is the length of
// one that has a number.
func TestMessages(t *testing.T) {
	for name, number := range map[string]int{"read": 2, "recv": 4} {
		for _, answer := range append(edges, 4, 5, 252, 253, 257, 260, 512) {
			s := in(fmt.Sprintf("say(told()); say(%s(7)); say(told()); say(told());", name))
			want := fmt.Sprintf("13 8(0) %d(7) 8(0) 8(%d) 8(%d)", number, answer, answer)
			if answer >= 4 && answer <= 256 {
				want = fmt.Sprintf("13 8(0) %d(7) %d(7) 8(99) 8(%d) 8(%d)", number, number+100, answer, answer)
			}
			wantRun(t, s, want, 1, answer, 99)
		}
	}
	wantRun(t, in("read(1); recv(2); say(told());"), "9 2(1) 102(1) 4(2) 8(0)", 8, 5)
	wantRun(t, in("recv(1); read(2); say(told());"), "9 4(1) 104(1) 2(2) 102(2) 8(256)", 4, 5, 256, 6)
	wantRun(t, in("say(read(1) + recv(2) + told());"), "9 2(1) 102(1) 4(2) 104(2) 8(23)", 8, 5, 12, 6)
	wantRun(t, in("say(told() + read(1) + told());"), "8 2(1) 102(1) 8(13)", 8, 5)
	wantRun(t, "func f() { read(1); } func main() { f(); say(told()); f(); say(told()); }", "16 2(1) 102(1) 8(8) 2(1) 8(3)", 8, 5, 0, 3)
	wantRun(t, in("read(1); say(1); write(1, 2); send(1, 2); mask(1); who(); say(told());"), "22 2(1) 102(1) 8(1) 1(1,2) 3(1,2) 5(1) 7() 8(8)", 8, 5, 9, 9, 9, 9, 9, 9)
	wantRun(t, in("read(read(3));"), "4 2(3) 102(3) 2(77) 102(77)", 256, 77, 4, 5)
}

// TestHalt: from however far within; whatever is answered then.
func TestHalt(t *testing.T) {
	wantRun(t, in("halt(); say(1);"), "2 11()", 5)
	wantRun(t, in("say(1 + -halt() * say(2));"), "7 11()", 5)
	wantRun(t, "func f() { if 1 { while 1 bound 5 { say(1); halt(); } } } func g() { f(); say(2); } func main() { while g() bound 5 { } forever { } }", "14 8(1) 11()", 5)
	wantRun(t, "array a[2]; func f(x) { say(x); } func main() { f(halt()); }", "3 11()", 5)
	wantRun(t, "array a[2]; func main() { a[halt()] = say(1); }", "2 11()", 5)
	wantRun(t, "array a[2]; func main() { a[say(1)] = halt(); }", "4 8(1) 11()", 5)
	wantRun(t, in("return halt();"), "2 11()", 5)
	wantRun(t, in("0 && halt(); 1 || halt(); say(1);"), "9 8(1)")
	wantRun(t, in("say(1) && halt(); say(2);"), "5 8(1) 11()", 5)
}
