package check

import (
	"math"
	"reflect"
	"strconv"
	"strings"
	"testing"

	"mandate/api"
)

func sym(s string) api.Value { return api.Value{Sym: s} }

func num(n int64) api.Value { return api.Value{Num: n} }

func of(pred string, args ...api.Value) api.Tuple {
	return api.Tuple{Pred: pred, Args: args}
}

// plain is a node that may be.
func plain() api.Node {
	return api.Node{User: 0, No: 1, Tuple: of("p", sym("ann"), sym("a"))}
}

// longest is a node with the longest line that any has.
func longest() api.Node {
	name := strings.Repeat("p", api.MaxName)
	widest := of(name, sym(name), num(math.MinInt64), num(math.MinInt64), num(math.MinInt64), num(math.MinInt64))
	n := api.Node{User: 15, No: api.MaxTick, Tuple: widest}
	for range api.MaxBody {
		n.Kids, n.Nots = append(n.Kids, 4095), append(n.Nots, widest)
	}
	return n
}

// nodes are so many nodes that may be.
func nodes(n int) []api.Node {
	l := make([]api.Node, n)
	for i := range l {
		l[i] = plain()
	}
	return l
}

const plainLine = "0 1 - ann says p(a)\n"

func prints(t *testing.T, l []api.Node, want string) {
	t.Helper()
	if text, errno := Print(l); text != want || errno != api.OK {
		t.Errorf("printed %.300q, %d, not %.300q", text, errno, want)
	}
}

func noPrint(t *testing.T, what string, l []api.Node, want api.Errno) {
	t.Helper()
	if text, errno := Print(l); text != "" || errno != want {
		t.Errorf("%s: printed %.100q, %d, not %d", what, text, errno, want)
	}
}

func same(a, b []api.Node) bool {
	return len(a) == 0 && len(b) == 0 || reflect.DeepEqual(a, b)
}

func reads(t *testing.T, text string, want []api.Node) {
	t.Helper()
	if l, line, errno := Read(text); !same(l, want) || line != 0 || errno != api.OK {
		t.Errorf("%.300q: read %v at %d, %d", text, l, line, errno)
	}
}

func noRead(t *testing.T, text string, at int, want api.Errno) {
	t.Helper()
	if l, line, errno := Read(text); len(l) != 0 || line != at || errno != want {
		t.Errorf("%.300q: %d nodes at %d, %d, not at %d, %d", text, len(l), line, errno, at, want)
	}
}

func TestText(t *testing.T) { // P16.1
	ann, bob, a := sym("ann"), sym("bob"), sym("a")
	for text, l := range map[string][]api.Node{
		"":        nil,
		plainLine: {plain()},
		"0 1 - ann says p(a)\n0 3 0 ann says ok(a) not ann says bad(a)\n": {plain(), {No: 3, Kids: []int{0}, Tuple: of("ok", ann, a), Nots: []api.Tuple{of("bad", ann, a)}}},
		"15 1 - bob says p\n":                                            {{User: 15, No: 1, Tuple: of("p", bob)}},
		"7 1099511627776 4095,0,0 ann says none\n":                       {{User: 7, No: api.MaxTick, Kids: []int{4095, 0, 0}, Tuple: of("none", ann)}},
		"1 20 5,4,3,2,1,0 ann says p(-1, a, 0, bob)\n":                   {{User: 1, No: 20, Kids: []int{5, 4, 3, 2, 1, 0}, Tuple: of("p", ann, num(-1), a, num(0), bob)}},
		"0 1 - ann says q not ann says q not bob says q\n":               {{No: 1, Tuple: of("q", ann), Nots: []api.Tuple{of("q", ann), of("q", bob)}}},
		"0 1 - not_a says nots(says1) not bob says not1(nota)\n":         {{No: 1, Tuple: of("nots", sym("not_a"), sym("says1")), Nots: []api.Tuple{of("not1", bob, sym("nota"))}}},
		"2 9 12 ann says q(-9223372036854775808, 9223372036854775807)\n": {{User: 2, No: 9, Kids: []int{12}, Tuple: of("q", ann, num(math.MinInt64), num(math.MaxInt64))}},
	} {
		prints(t, l, text)
		reads(t, text, l)
	}
	prints(t, []api.Node{}, "")
	prints(t, []api.Node{{No: 1, Kids: []int{}, Nots: []api.Tuple{}, Tuple: of("p", ann)}}, "0 1 - ann says p\n")
}

func TestTheLongestLine(t *testing.T) { // P16.1
	atom := "pppppppppppppppp says pppppppppppppppp(" + strings.Repeat("-9223372036854775808, ", 3) + "-9223372036854775808)"
	text := "15 1099511627776 4095,4095,4095,4095,4095,4095 " + atom + strings.Repeat(" not "+atom, 6) + "\n"
	prints(t, []api.Node{longest()}, text)
	reads(t, text, []api.Node{longest()})
}

func TestWhichNodesMayBe(t *testing.T) { // P16.1
	ann, one := sym("ann"), num(1)
	odd := []api.Tuple{
		{}, of("p"), of("", ann), of("not", ann), of("says", ann), of("P", ann), of("p q", ann), of("ppppppppppppppppp", ann),
		of("p", one), of("p", num(0), ann), of("p", sym("not")), of("p", sym("X")), of("p", ann, sym("says")), of("p", ann, sym("X")),
		of("p", api.Value{Sym: "ann", Num: 1}), of("p", ann, api.Value{Sym: "a", Num: -1}), of("p", ann, one, one, one, one, one), of("p", ann, sym("a\n")),
	}
	wrong := map[string]func(n *api.Node){}
	for _, user := range []int{-1, 16, math.MinInt, math.MaxInt} {
		wrong["the user "+strconv.Itoa(user)] = func(n *api.Node) { n.User = user }
	}
	for _, no := range []int{0, -1, api.MaxTick + 1, math.MinInt, math.MaxInt} {
		wrong["the number "+strconv.Itoa(no)] = func(n *api.Node) { n.No = no }
	}
	for _, kid := range []int{-1, 4096, math.MinInt, math.MaxInt} {
		wrong["the kid "+strconv.Itoa(kid)] = func(n *api.Node) { n.Kids = []int{0, kid} }
	}
	for i, x := range odd {
		wrong["the odd tuple "+strconv.Itoa(i)] = func(n *api.Node) { n.Tuple = x }
		wrong["the odd not "+strconv.Itoa(i)] = func(n *api.Node) { n.Nots = []api.Tuple{of("q", ann), x} }
	}
	wrong["seven kids"] = func(n *api.Node) { n.Kids = make([]int, 7) }
	wrong["seven nots"] = func(n *api.Node) { n.Nots = append(longest().Nots, of("q", ann)) }
	for what, change := range wrong {
		n := plain()
		change(&n)
		noPrint(t, what, []api.Node{n}, api.ErrArg)
		noPrint(t, what, []api.Node{plain(), n, plain()}, api.ErrArg)
		noPrint(t, what, append(nodes(api.MaxNodes), n), api.ErrArg)
		noPrint(t, what, append([]api.Node{n}, nodes(api.MaxNodes)...), api.ErrArg)
	}
}

func TestPrintLimits(t *testing.T) { // P16.1
	prints(t, nodes(api.MaxNodes), strings.Repeat(plainLine, api.MaxNodes))
	noPrint(t, "one too many", nodes(api.MaxNodes+1), api.ErrFull)
	noPrint(t, "twice as many", nodes(2*api.MaxNodes), api.ErrFull)
	// As many bytes as may be, and one more.
	text, l := exact(t)
	prints(t, l, text)
	l[0].User = 10
	noPrint(t, "one byte more", l, api.ErrLong)
	l[0].User = 16
	noPrint(t, "a node that may not be, and too long", l, api.ErrArg)
	for len(l) <= api.MaxNodes {
		l = append(l, longest())
	}
	noPrint(t, "a node that may not be, too many and too long", l, api.ErrArg)
	l[0].User = 0
	noPrint(t, "too many and too long", l, api.ErrFull)
	noPrint(t, "too long", l[:api.MaxNodes], api.ErrLong)
}

// exact are a text of as many bytes as may be, and its nodes. The first one's user has one digit.
func exact(t *testing.T) (string, []api.Node) {
	t.Helper()
	long, _ := Print([]api.Node{longest()})
	l, left := nodes(1), api.MaxProof-len(plainLine)
	for ; left >= 2*len(long); left -= len(long) {
		l = append(l, longest())
	}
	for ; left >= 2*len(plainLine); left -= len(plainLine) {
		l = append(l, plain())
	}
	more := left - len(plainLine)
	n, some := plain(), min(more, api.MaxName-1)
	n.Tuple = of("p"+strings.Repeat("p", more-some), sym("ann"), sym("a"+strings.Repeat("a", some)))
	l = append(l, n)
	text, errno := Print(l)
	if errno != api.OK || len(text) != api.MaxProof {
		t.Fatalf("%d bytes, %d", len(text), errno)
	}
	return text, l
}

func TestReadLimits(t *testing.T) { // P16.1
	reads(t, strings.Repeat(plainLine, api.MaxNodes), nodes(api.MaxNodes))
	full := strings.Repeat(plainLine, api.MaxNodes)
	for _, behind := range []string{plainLine, "\n", "x\n", "x", "0", plainLine + "x\n", "x\n" + plainLine, "\n\n\n"} {
		noRead(t, full+behind, api.MaxNodes+1, api.ErrFull)
	}
	noRead(t, strings.Repeat(plainLine, api.MaxNodes-1)+"x\n"+plainLine, api.MaxNodes, api.ErrLine)
	noRead(t, strings.Repeat(plainLine, api.MaxNodes-1)+"x", api.MaxNodes, api.ErrLine)
	noRead(t, "x\n"+full+plainLine, 1, api.ErrLine)
	text, l := exact(t)
	reads(t, text, l)
	lines := strings.SplitAfter(text, "\n")
	noRead(t, text[:len(text)-1], len(lines)-1, api.ErrLine)
	noRead(t, strings.Replace(text, "\n", " ", 1), 1, api.ErrLine)
	for _, long := range []string{text + "\n", "1" + text, text + plainLine, strings.Repeat("\n", api.MaxProof+1), strings.Repeat(full, 13), strings.Repeat("x", api.MaxProof+1)} {
		noRead(t, long, 0, api.ErrLong)
	}
	noRead(t, strings.Repeat("\n", api.MaxProof), 1, api.ErrLine)
	noRead(t, strings.Repeat("x", api.MaxProof), 1, api.ErrLine)
	noRead(t, strings.Repeat(" not ", api.MaxProof/5), 1, api.ErrLine)
	noRead(t, "0 1 "+strings.Repeat("0,", api.MaxProof/4)+"0 ann says p\n", 1, api.ErrLine)
	noRead(t, "0 1 - ann says p"+strings.Repeat(" not ann says p", api.MaxProof/16)+"\n", 1, api.ErrLine)
}

// noLines are no nodes' lines, in rows.
const noLines = `-|x|0|0 1|0 1 -|0 1 - |0 1 -  |0 1 - ann|0 1 - ann says|0 1 - ann says |0 1 ann says p(a)|0 - ann says p(a)|- ann says p(a)|ann says p(a)
 0 1 - ann says p(a)|0  1 - ann says p(a)|0 1  - ann says p(a)|0 1 -  ann says p(a)|0 1 - ann says p(a) |0 1 - ann  says p(a)|0 1 - ann says  p(a)|0 1 - ann says p (a)|0 1 - ann says p( a)|0 1 - ann says p(a )
0	1 - ann says p(a)|0 1	- ann says p(a)|0 1 -	ann says p(a)|0 1 - ann	says p(a)|	0 1 - ann says p(a)|0 1 - ann says p(a)	
0 1 - ann says p(a,b)|0 1 - ann says p(a,  b)|0 1 - ann says p(a ,b)|0 1 - ann says p(a , b)|0 1 - ann says p(a, b).|0 1 - ann says p(a).|0 1 - ann says p()|0 1 - ann says p(a|0 1 - ann says p(a))|0 1 - ann says p(a,)
0 1 - p(a)|0 1 - X says p(a)|0 1 - ann says p(X)|0 1 - 7 says p(a)|0 1 - not says p(a)|0 1 - says says p(a)|0 1 - ann says not|0 1 - ann says says|0 1 - ann says P|0 1 - ann says not p(a)|0 1 - ann Says p|0 1 - 0 < 1|0 1 - a != b
0 1 - not ann says p(a)|0 1 not ann says p(a)|0 1 -ann says p(a)|0 1 -, ann says p(a)|0 1 -- ann says p(a)|0 1 0- ann says p(a)|0 1 -,0 ann says p(a)|0 1 0,- ann says p(a)
16 1 - ann says p(a)|-1 1 - ann says p(a)|+0 1 - ann says p(a)|-0 1 - ann says p(a)|00 1 - ann says p(a)|01 1 - ann says p(a)|0x1 1 - ann says p(a)|1_0 1 - ann says p(a)|x 1 - ann says p(a)|0. 1 - ann says p(a)|99999999999999999999 1 - ann says p(a)
0 0 - ann says p(a)|0 -1 - ann says p(a)|0 +1 - ann says p(a)|0 01 - ann says p(a)|0 1099511627777 - ann says p(a)|0 1x - ann says p(a)|0 99999999999999999999 - ann says p(a)|0 18446744073709551617 - ann says p(a)|0 1e1 - ann says p(a)
0 1 4096 ann says p(a)|0 1 -1 ann says p(a)|0 1 +1 ann says p(a)|0 1 00 ann says p(a)|0 1 -0 ann says p(a)|0 1 01 ann says p(a)|0 1 x ann says p(a)|0 1 99999999999999999999 ann says p(a)|0 1 0,4096 ann says p(a)|0 1 0,-1 ann says p(a)
0 1 , ann says p(a)|0 1 0, ann says p(a)|0 1 ,0 ann says p(a)|0 1 0,,1 ann says p(a)|0 1 0, 1 ann says p(a)|0 1 0 1 ann says p(a)|0 1 0;1 ann says p(a)|0 1 0.1 ann says p(a)|0 1 0,1,2,3,4,5,6 ann says p(a)|0 1 0,1,2,3,4,5, ann says p(a)
0 1 - ann says p(a) not|0 1 - ann says p(a) not |0 1 - ann says p(a) not  ann says p(b)|0 1 - ann says p(a)  not ann says p(b)|0 1 - ann says p(a)not ann says p(b)|0 1 - ann says p(a) not ann says p(b) |0 1 - ann says p(a) not p(b)|0 1 - ann says p(a) not ann says p(X)
0 1 - ann says p(a) not not ann says p(b)|0 1 - ann says p(a) not ann says p(b) not|0 1 - ann says p(a) not ann says p(b) not |0 1 - ann says p(a) not ann says p(b), not ann says p(c)|0 1 - ann says p(a), not ann says p(b)|0 1 - ann says p(a) ann says p(b)|0 1 - ann says p(a) not 7 says p(a)
0 1 - ann says q not ann says q not ann says q not ann says q not ann says q not ann says q not ann says q not ann says q|0 1 - ann says p(1, 2, 3, 4, 5)|0 1 - ann says ppppppppppppppppp|0 1 - ann says p(aaaaaaaaaaaaaaaaa)|0 1 - aaaaaaaaaaaaaaaaa says p
0 1 - ann says p(+1)|0 1 - ann says p(01)|0 1 - ann says p(-0)|0 1 - ann says p(9223372036854775808)|0 1 - ann says p(- 1)|0 1 - ann says p(a) # p|0 1 - ann says p(_a)|0 1 - ann says p(not)|0 1 - ann says p(says)|0 1 - ann says p(a-b)|0 1 - ann says é`

func TestNoLines(t *testing.T) { // P16.1
	lines := strings.FieldsFunc(noLines, func(r rune) bool { return r == '|' || r == '\n' })
	for _, line := range append(lines, "") {
		noRead(t, line+"\n", 1, api.ErrLine)
		noRead(t, plainLine+line+"\n"+plainLine, 2, api.ErrLine)
		noRead(t, plainLine+plainLine+line+"\n", 3, api.ErrLine)
	}
	for _, text := range []string{
		"0 1 - ann says p(a)", "0 1 - ann says p(a)\r\n", "0 1 - ann says p(a)\r", "\r\n", "\n", "\n" + plainLine, "0 1 - ann\nsays p(a)\n", "0 1 - ann says p(a)\x00\n", "\xff\n", "\xef\xbb\xbf" + plainLine, "0 1 - ann says p(a)\v\n", "0 1 -\u00a0ann says p(a)\n",
	} {
		noRead(t, text, 1, api.ErrLine)
		noRead(t, plainLine+text, 2, api.ErrLine)
	}
	noRead(t, plainLine+"\n", 2, api.ErrLine)
	noRead(t, plainLine+" ", 2, api.ErrLine)
	noRead(t, plainLine+plainLine+"0 1 - ann says p(a)", 3, api.ErrLine)
	noRead(t, plainLine+"x\n"+"y\n"+"z", 2, api.ErrLine)
}

func TestEachByte(t *testing.T) { // P16.1: whatever is read, is written back the same
	text := "15 20 3,12 ann says p(a, -7) not bob says q not ann says bad(0)\n"
	taken := 0
	for at := range len(text) {
		for b := range 256 {
			for _, one := range []string{
				text[:at] + string([]byte{byte(b)}) + text[at+1:], text[:at] + string([]byte{byte(b)}) + text[at:], text[:at] + text[at+1:],
			} {
				l, line, errno := Read(one)
				if errno != api.OK {
					if len(l) != 0 || errno != api.ErrLine || line < 1 || line > 2 {
						t.Fatalf("%q: %v at %d, %d", one, l, line, errno)
					}
					continue
				}
				taken++
				prints(t, l, one)
			}
		}
	}
	if taken < 1000 {
		t.Errorf("%d were read", taken)
	}
}

func TestTextsAreNew(t *testing.T) { // P16.1, R4
	l := []api.Node{longest(), plain(), longest()}
	text, _ := Print(l)
	if !reflect.DeepEqual(l, []api.Node{longest(), plain(), longest()}) {
		t.Errorf("changed: %v", l)
	}
	got, _, errno := Read(text)
	if errno != api.OK {
		t.Fatal(errno)
	}
	for i, n := range got {
		_, _, _ = append(n.Kids, 7), append(n.Nots, of("x", sym("x"))), append(n.Tuple.Args, sym("x"))
		for k, x := range n.Nots {
			_ = append(x.Args, sym("x"))
			x.Args[0] = sym("not" + strconv.Itoa(i) + strconv.Itoa(k))
		}
		n.Tuple.Args[0] = sym("node" + strconv.Itoa(i))
		if len(n.Kids) > 0 {
			n.Kids[0] = i
		}
	}
	for i, n := range got {
		if n.Tuple.Args[0].Sym != "node"+strconv.Itoa(i) || len(n.Kids) > 0 && n.Kids[0] != i {
			t.Errorf("nodes share memory: %v", n)
		}
		for k, x := range n.Nots {
			if x.Args[0].Sym != "not"+strconv.Itoa(i)+strconv.Itoa(k) {
				t.Errorf("nodes share memory: %v", n)
			}
		}
	}
	reads(t, text, l)
}
