package arith_test

import (
	"math"
	"slices"
	"strconv"
	"strings"
	"testing"

	"conch/api"
	"conch/arith"
)

const minus63 = -9223372036854775808

// pairs makes a list of pairs of names and values, one behind the other.
func pairs(l ...string) []arith.Pair {
	var all []arith.Pair
	for i := 0; i+1 < len(l); i += 2 {
		all = append(all, arith.Pair{Name: l[i], Value: l[i+1]})
	}
	return all
}

// told is a list of settings as a text.
func told(l []arith.Pair) string {
	var all []string
	for _, p := range l {
		all = append(all, p.Name+" "+p.Value)
	}
	return strings.Join(all, "; ")
}

// texts calls with all texts of at most n parts of set.
func texts(set []string, n int, with func(s string)) {
	var add func(s string, n int)
	add = func(s string, n int) {
		with(s)
		for i := 0; i < len(set) && n > 0; i++ {
			add(s+set[i], n-1)
		}
	}
	add("", n)
}

// bytesOf are the bytes of s, each one a text.
func bytesOf(s string) []string { return strings.Split(s, "") }

// check holds Eval against the answer that is wanted.
func check(t *testing.T, s string, vars []arith.Pair, n int, sets []arith.Pair, e api.Errno) {
	t.Helper()
	if gotN, gotSets, gotE := arith.Eval(s, vars); gotN != n || !slices.Equal(gotSets, sets) || gotE != e {
		t.Errorf("Eval(%.200q): %d, %q, %v; wanted %d, %q, %v", s, gotN, told(gotSets), gotE, n, told(sets), e)
	}
}

// row is an expression and what is asked of it.
type row struct {
	s    string
	n    int
	sets string
	e    api.Errno
}

// checkRows holds Eval against rows.
func checkRows(t *testing.T, vars []arith.Pair, rows []row) {
	t.Helper()
	for _, r := range rows {
		n, sets, e := arith.Eval(r.s, vars)
		if n != r.n || told(sets) != r.sets || e != r.e {
			t.Errorf("Eval(%q): %d, %q, %v; wanted %d, %q, %v", r.s, n, told(sets), e, r.n, r.sets, r.e)
		}
	}
}

// checkNone tells where Eval takes one of the texts for an expression.
func checkNone(t *testing.T, vars []arith.Pair, l ...string) {
	t.Helper()
	for _, s := range l {
		check(t, s, vars, 0, nil, api.ErrSyntax)
	}
}

// TestValue: P3.1.
func TestValue(t *testing.T) {
	for _, c := range []struct {
		s string
		n int
	}{
		{"", 0}, {" ", 0}, {"\t", 0}, {"\n", 0}, {" \t\n \n\t", 0},
		{"0", 0}, {"7", 7}, {"10", 10}, {"1234567890", 1234567890}, {" 7\n", 7}, {"\n\t 7", 7}, {"7\t \n", 7},
		{"00", 0}, {"010", 8}, {"0777", 511}, {"-010", -8}, {"+010", 8},
		{"0x0", 0}, {"0x10", 16}, {"0X10", 16}, {"0xabcdef", 0xabcdef}, {"0XABCDEF", 0xabcdef}, {"0xaB", 171}, {"0x09", 9}, {"-0x10", -16}, {"+0X1f", 31},
		{"-3", -3}, {"+4", 4}, {"-0", 0}, {"+0", 0}, {" -3 ", -3},
		{"9223372036854775807", math.MaxInt64}, {"+9223372036854775807", math.MaxInt64}, {"-9223372036854775807", -math.MaxInt64}, {"-9223372036854775808", minus63},
		{"0x7fffffffffffffff", math.MaxInt64}, {"-0x7fffffffffffffff", -math.MaxInt64}, {"-0x8000000000000000", minus63},
		{"0777777777777777777777", math.MaxInt64}, {"-01000000000000000000000", minus63},
		{strings.Repeat("0", 5000) + "7", 7}, {"0x" + strings.Repeat("0", 5000) + "F", 15}, {strings.Repeat(" ", 5000) + "7" + strings.Repeat("\n", 5000), 7},
	} {
		if n, e := arith.Value(c.s); n != c.n || e != api.OK {
			t.Errorf("Value(%.50q): %d, %v; wanted %d", c.s, n, e, c.n)
		}
	}
	for _, s := range []string{
		"a", "x1", "_", "08", "09", "018", "0x", "0X", "-0x", "0xg", "0x1g", "x10", "0x1x", "00x1", "0x0x1", "1x", "1a", "7_", "1_0", "0_1", "0b1", "0o7", "1e3", "1.0", "0x1p3",
		"+", "-", "- 3", "+ 3", "-\n3", "--3", "++3", "+-3", "-+3", "3-", "3+", "1 2", "1\n2", "0x 1", "0 x1", "(1)", "1+1", "'1'", "\x001", "1\x00",
		"9223372036854775808", "+9223372036854775808", "-9223372036854775809", "0x8000000000000000", "+0x8000000000000000", "-0x8000000000000001", "01000000000000000000000", "-01000000000000000000001",
		"18446744073709551615", "18446744073709551616", "18446744073709551617", "-18446744073709551616", "0x10000000000000000", "-0x10000000000000000", strings.Repeat("9", 5000), "0x1" + strings.Repeat("0", 5000),
		"\r1", "1\r", "\v1", "1\f", "\u00a01", "1\u0085", "\u0661", "\uff11",
	} {
		if n, e := arith.Value(s); n != 0 || e != api.ErrSyntax {
			t.Errorf("Value(%.50q): %d, %v; wanted ErrSyntax", s, n, e)
		}
	}
}

// checkValue holds Value against the oracle.
func checkValue(t *testing.T, s string) {
	t.Helper()
	n, e := arith.Value(s)
	if wantN, wantE := wantValue(s); n != wantN || e != wantE {
		t.Errorf("Value(%.50q): %d, %v; wanted %d, %v", s, n, e, wantN, wantE)
	}
}

// TestValueOfShort goes through all short texts: P3.1.
func TestValueOfShort(t *testing.T) {
	check := func(s string) { checkValue(t, s) }
	texts(bytesOf("01789aAfFgGxX_+- \t\n"), 4, check)
	texts(bytesOf("0179xF+- "), 5, check)
	for c := range 256 {
		b := string([]byte{byte(c)})
		for _, s := range []string{b, b + "7", "7" + b, "0" + b, "0x" + b, b + "x7", "0" + b + "7", "1" + b + "0", "-" + b, b + "-7", "-" + b + "7", "-7" + b, "7 " + b, b + " 7", b + b} {
			checkValue(t, s)
		}
	}
}

// TestValueAtEdges: P3.1 around the greatest and the least number, in each base.
func TestValueAtEdges(t *testing.T) {
	for _, edge := range []uint64{0, 1 << 31, 1 << 32, 1 << 62, 1 << 63, math.MaxUint64} {
		for d := range uint64(7) {
			n := edge + d - 3
			for _, word := range []string{strconv.FormatUint(n, 10), "0" + strconv.FormatUint(n, 8), "0x" + strconv.FormatUint(n, 16), "0X" + strings.ToUpper(strconv.FormatUint(n, 16))} {
				for _, ahead := range []string{"", "+", "-", " ", "-+", "-0"} {
					checkValue(t, ahead+word)
					checkValue(t, ahead+word+"0")
				}
			}
		}
	}
}

// TestExamples: the document's.
func TestExamples(t *testing.T) {
	checkRows(t, pairs("x", "5"), []row{
		{"1 + 2 * 3", 7, "", api.OK},
		{"x = x + 1, 2", 0, "", api.ErrSyntax},
		{"y = x << 1", 10, "y 10", api.OK},
		{"0 && 1 / 0", 0, "", api.OK},
		{"1 / 0", 0, "", api.ErrDiv},
		{"0x1F + 010", 39, "", api.OK},
		{"x > 3 ? x : -x", 5, "", api.OK},
		{"-7 / 2", -3, "", api.OK},
		{"-7 % 2", -1, "", api.OK},
		{"a++b", 0, "", api.OK},
		{"x++x", 10, "", api.OK},
	})
}

// TestLength: P3.2, how long a text may be, and what is blank.
func TestLength(t *testing.T) {
	x := pairs("x", "5")
	for _, s := range []string{"", " ", "\t", "\n", " \t\n\n\t ", strings.Repeat(" ", 4096), strings.Repeat("\n", 4096)} {
		check(t, s, x, 0, nil, api.OK)
	}
	for _, s := range []string{strings.Repeat(" ", 4097), strings.Repeat("1", 4097), "1" + strings.Repeat(" ", 4096), strings.Repeat("@", 4097), "1/0" + strings.Repeat(" ", 4094), strings.Repeat("(", 10000)} {
		check(t, s, x, 0, nil, api.ErrBig)
	}
	check(t, "7"+strings.Repeat(" ", 4095), nil, 7, nil, api.OK)
	check(t, strings.Repeat("0", 4095)+"7", nil, 7, nil, api.OK)
	check(t, strings.Repeat("1", 4096), nil, 0, nil, api.ErrSyntax)
	check(t, strings.Repeat("@", 4096), nil, 0, nil, api.ErrSyntax)
	checkNone(t, x, "\r", "\v", "\f", "\x00", "1\r", "1 \v+ 1", "\u00a01")
	long := strings.Repeat("n", 4096)
	check(t, long, pairs("n", "1", long, "2", long+"n", "3"), 2, nil, api.OK)
}

// TestDeep: P3.2 and R1, parts within one another as deep as a text can hold them.
func TestDeep(t *testing.T) {
	in := func(front, mid, back string, n int) string {
		return strings.Repeat(front, n) + mid + strings.Repeat(back, n)
	}
	check(t, in("(", "12", ")", 2047), nil, 12, nil, api.OK)
	check(t, in("(", "1", ")", 2048), nil, 0, nil, api.ErrBig)
	check(t, in("(", "7", ")", 2047)+")", nil, 0, nil, api.ErrSyntax)
	check(t, "("+in("(", "7", ")", 2047), nil, 0, nil, api.ErrSyntax)
	check(t, in("(", "", "", 4096), nil, 0, nil, api.ErrSyntax)
	check(t, in("(", "", ")", 2048), nil, 0, nil, api.ErrSyntax)
	check(t, in("-", "1", "", 4095), nil, -1, nil, api.OK)
	check(t, in("~", "1", "", 4094), nil, 1, nil, api.OK)
	check(t, in("!", "7", "", 4095), nil, 0, nil, api.OK)
	check(t, in("+", "", "", 4096), nil, 0, nil, api.ErrSyntax)
	check(t, in("-(", "1", ")", 1365), nil, -1, nil, api.OK)
	check(t, "0"+in("+1", "", "", 2047), nil, 2047, nil, api.OK)
	check(t, in("1+(", "1", ")", 1023), nil, 1024, nil, api.OK)
	check(t, in("0?1:", "9", "", 1023), nil, 9, nil, api.OK)
	check(t, in("1?", "9", ":0", 1023), nil, 9, nil, api.OK)
	check(t, in("1?", "9", ":0", 1023)+":0", nil, 0, nil, api.ErrSyntax)
	check(t, in("1||", "1/0", "", 1364), nil, 1, nil, api.OK)
	n, sets, e := arith.Eval(in("x=", "8", "", 2047), nil)
	if n != 8 || len(sets) != 2047 || e != api.OK {
		t.Error(n, len(sets), e)
	}
	n, sets, e = arith.Eval(in("x+=", "1", "", 1365), nil)
	if n != 0 || len(sets) != 1365 || sets[62] != pairs("x", "4611686018427387904")[0] || e != api.OK {
		t.Error(n, len(sets), e)
	}
}

// TestNumbers: P3.2, numbers' words.
func TestNumbers(t *testing.T) {
	checkRows(t, nil, []row{
		{"0", 0, "", api.OK}, {"1", 1, "", api.OK}, {"9", 9, "", api.OK}, {"90", 90, "", api.OK}, {"00", 0, "", api.OK}, {"017", 15, "", api.OK},
		{"0xf", 15, "", api.OK}, {"0XF", 15, "", api.OK}, {"0xAa", 170, "", api.OK}, {"0x010", 16, "", api.OK},
		{"9223372036854775807", math.MaxInt64, "", api.OK}, {"-9223372036854775807", -math.MaxInt64, "", api.OK}, {"-9223372036854775807 - 1", minus63, "", api.OK},
		{"0x7FFFFFFFFFFFFFFF", math.MaxInt64, "", api.OK}, {"0777777777777777777777", math.MaxInt64, "", api.OK}, {"0x000000000000000000001", 1, "", api.OK}, {"00777", 511, "", api.OK},
		{"1?2:3", 2, "", api.OK}, {"010?0x2:3", 2, "", api.OK}, {"1<2", 1, "", api.OK}, {"(7)", 7, "", api.OK},
	})
	checkNone(t, pairs("x", "5", "a", "1"),
		"9223372036854775808", "-9223372036854775808", "+9223372036854775808", "(-9223372036854775808)", "0x8000000000000000", "-0x8000000000000000", "01000000000000000000000", "18446744073709551616", "18446744073709551617", "0x10000000000000001",
		"08", "09", "018", "1a", "1x", "1_", "01a", "0a", "0_", "0x", "0X", "0xg", "0x1g", "0x1_", "0x1x", "00x1", "0b1", "7x", "1 2", "0 7", "0x 1", "0 x1", "1.5", "1e", "$x", "#", "\"1\"", "'1'", "1\x00", "\x801")
	check(t, "0||9223372036854775808", nil, 0, nil, api.ErrSyntax)
	check(t, "1||9223372036854775808", nil, 0, nil, api.ErrSyntax)
}

// TestParts: P3.2, the longest part at its place.
func TestParts(t *testing.T) {
	checkRows(t, pairs("a", "6", "b", "2", "a1", "77", "_", "3"), []row{
		{"a<<b", 24, "", api.OK}, {"a>>b", 1, "", api.OK}, {"a<b", 0, "", api.OK}, {"a<=b", 0, "", api.OK}, {"a>=b", 1, "", api.OK}, {"a>b", 1, "", api.OK},
		{"a&&b", 1, "", api.OK}, {"a&b", 2, "", api.OK}, {"a||b", 1, "", api.OK}, {"a|b", 6, "", api.OK}, {"a^b", 4, "", api.OK},
		{"a==b", 0, "", api.OK}, {"a ==b", 0, "", api.OK}, {"a== b", 0, "", api.OK}, {"a!=b", 1, "", api.OK}, {"a=b", 2, "a 2", api.OK}, {"a=b==b", 1, "a 1", api.OK}, {"a=!b", 0, "a 0", api.OK}, {"a=-b", -2, "a -2", api.OK}, {"a=+b", 2, "a 2", api.OK}, {"a=~b", -3, "a -3", api.OK},
		{"a++b", 8, "", api.OK}, {"a--b", 8, "", api.OK}, {"a+-b", 4, "", api.OK}, {"a-+b", 4, "", api.OK}, {"++a", 6, "", api.OK}, {"--a", 6, "", api.OK}, {"a+++b", 8, "", api.OK}, {"a---b", 4, "", api.OK}, {"!!a", 1, "", api.OK}, {"a*-b", -12, "", api.OK}, {"a&&!b", 0, "", api.OK}, {"a&~b", 4, "", api.OK}, {"a<-b", 0, "", api.OK}, {"a<<-b", minus63, "", api.OK},
		{"a1", 77, "", api.OK}, {"_+a1", 80, "", api.OK}, {" a\t+\nb ", 8, "", api.OK}, {"a?b:a1", 2, "", api.OK}, {"a ? b : a1", 2, "", api.OK}, {"( ( a ) )", 6, "", api.OK},
	})
	checkNone(t, pairs("a", "6", "b", "2"),
		"a++", "a--", "a ++ ", "a b", "a 1", "1 a", "a=", "=a", "=", "a = = b", "a=== b", "a= =b", "a<<=b", "a>>=b", "a&=b", "a|=b", "a^=b", "a&&=b", "a||=b", "a!=", "a! =b", "a!b", "a~b", "a < = b", "a < < b", "a & & b", "a | | b", "a + = b", "a +== b", "a*==b", "a===b",
		"a<<<b", "a&&&b", "a|||b", "a**b", "a//b", "a%%b", "a^^b", "a<>b", "a><b", "a=<b", "a=>b", "a,b", "a;b", "a\\b", "!=b", "==b", "<b", "*b", "/b", "&b", "?", ":", "a?", "a?b", "a?b:", "a?:b", "?a:b", "a:b", "a?b:b:b", "a?b?b:b", "(", ")", "()", "(a", "a)", "a()", "(a)(b)", "(a)b", "a(b)", "1(2)", "(1)2", ")(", "(a))", "[a]", "{a}", "+", "a+", "+ +", "a+*b", "a+)", "(a+", "(a?b", "(a?b:)", "a ? (b : b)")
}

// TestRanks: P3.2, what binds stronger, and from which side.
func TestRanks(t *testing.T) {
	checkRows(t, pairs("x", "5"), []row{
		{"1||0&&0", 1, "", api.OK}, {"0&&0||1", 1, "", api.OK}, {"1&&0|2", 1, "", api.OK}, {"1|3^2", 1, "", api.OK}, {"4|1^5", 4, "", api.OK}, {"2^3&1", 3, "", api.OK}, {"4&5==5", 0, "", api.OK}, {"2==1<2", 0, "", api.OK}, {"1==1<2", 1, "", api.OK}, {"0!=1>=2", 0, "", api.OK}, {"1<2<<1", 1, "", api.OK}, {"1<<1+1", 4, "", api.OK}, {"1+2*3", 7, "", api.OK}, {"2*3+1", 7, "", api.OK},
		{"-2+3", 1, "", api.OK}, {"!0+1", 2, "", api.OK}, {"~0*2", -2, "", api.OK}, {"-2*-3", 6, "", api.OK}, {"- - 2", 2, "", api.OK}, {"!-1", 0, "", api.OK}, {"-!0", -1, "", api.OK}, {"~-1", 0, "", api.OK}, {"-1>>1", -1, "", api.OK}, {"!1==0", 1, "", api.OK},
		{"8-4-2", 2, "", api.OK}, {"8-4+2", 6, "", api.OK}, {"16/4/2", 2, "", api.OK}, {"16/4*2", 8, "", api.OK}, {"7%4%2", 1, "", api.OK}, {"2*7%4", 2, "", api.OK}, {"1<<2<<3", 32, "", api.OK}, {"256>>4>>2", 4, "", api.OK}, {"1<<6>>2", 16, "", api.OK}, {"3>2>1", 0, "", api.OK}, {"1<3<=1", 1, "", api.OK}, {"2==2==1", 1, "", api.OK}, {"2==2!=1", 0, "", api.OK},
		{"0?1:0?2:3", 3, "", api.OK}, {"1?0?2:3:4", 3, "", api.OK}, {"0||1?2:3", 2, "", api.OK}, {"1?2:3||1", 2, "", api.OK}, {"0?2:3||0", 1, "", api.OK}, {"1?0:0?5:6", 0, "", api.OK}, {"(1?0:0)?5:6", 6, "", api.OK}, {"1?2:3+4", 2, "", api.OK}, {"0?1:2?0?3:4:5", 4, "", api.OK},
		{"1?y=2:3", 2, "y 2", api.OK}, {"0?y=2:3", 3, "", api.OK}, {"1?y=2?3:4:5", 3, "y 3", api.OK}, {"y=1?2:3", 2, "y 2", api.OK}, {"a=b=x", 5, "b 5; a 5", api.OK}, {"a=b+=x", 5, "b 5; a 5", api.OK}, {"1?2:(y=3)", 2, "", api.OK}, {"0?2:(y=3)", 3, "y 3", api.OK}, {"y=0||1", 1, "y 1", api.OK}, {"1+(y=2)*3", 7, "y 2", api.OK}, {"(y)=1", 0, "", api.ErrSyntax},
	})
	checkNone(t, pairs("x", "5"), "1?2:y=3", "0?2:y=3", "1?2:y+=3", "1+x=3", "1||x=3", "x||x=3", "!x=3", "-x=3", "+x=3", "(x)=3", "((x))+=3", "1=x", "x=1=2", "x+1=2", "x==y=2", "a=b==c=1", "a=1?2:b=3", "1?x:y=2", "0x1=2")
}

// TestPassedOver: P3.2, what isn't needed is neither asked, nor set, nor an error.
func TestPassedOver(t *testing.T) {
	checkRows(t, pairs("bad", "a", "x", "5"), []row{
		{"0 && bad", 0, "", api.OK}, {"1 && bad", 0, "", api.ErrSyntax}, {"1 || bad", 1, "", api.OK}, {"0 || bad", 0, "", api.ErrSyntax}, {"-9 || bad", 1, "", api.OK},
		{"0 && 1/0", 0, "", api.OK}, {"1 && 1/0", 0, "", api.ErrDiv}, {"1 || 1%0", 1, "", api.OK}, {"0 || 1%0", 0, "", api.ErrDiv},
		{"0 && (y = 1)", 0, "", api.OK}, {"1 && (y = 2)", 1, "y 2", api.OK}, {"1 || (y = 1)", 1, "", api.OK}, {"0 || (y = 2)", 1, "y 2", api.OK}, {"0 && (y = 1) || (z = 2)", 1, "z 2", api.OK}, {"1 || (y = 1) && (z = 2)", 1, "", api.OK}, {"(1 || (y = 1)) && (z = 2)", 1, "z 2", api.OK}, {"0 && (y = 1) && (z = 2)", 0, "", api.OK},
		{"1 ? x : bad", 5, "", api.OK}, {"0 ? bad : x", 5, "", api.OK}, {"0 ? x : bad", 0, "", api.ErrSyntax}, {"bad ? 1 : 2", 0, "", api.ErrSyntax}, {"1 ? 2 : 1/0", 2, "", api.OK}, {"0 ? 1/0 : 2", 2, "", api.OK}, {"0 ? y = 1 : (z = 2)", 2, "z 2", api.OK}, {"1 ? y = 1 : (z = 2)", 1, "y 1", api.OK}, {"1 ? 2 : (0 ? bad : (y /= 0))", 2, "", api.OK},
		{"0 && (y /= 0)", 0, "", api.OK}, {"0 && (bad += 1)", 0, "", api.OK}, {"5 && 7", 1, "", api.OK}, {"0 || 7", 1, "", api.OK}, {"0 || 0", 0, "", api.OK}, {"5 && 0", 0, "", api.OK}, {"7 ? 8 : 9", 8, "", api.OK}, {"-1 ? 8 : 9", 8, "", api.OK},
		{"0 * bad", 0, "", api.ErrSyntax}, {"0 & 1/0", 0, "", api.ErrDiv}, {"1 | bad", 0, "", api.ErrSyntax},
	})
	checkNone(t, nil, "0 && 1 +", "1 || (", "1 ? 2 : 08", "0 ? 1a : 2", "1 || 2 3")
}

// TestSettings: P3.2, each of the ways to set, and what is read behind it.
func TestSettings(t *testing.T) {
	checkRows(t, pairs("x", "7", "x", "100", "bad", "a", "bad", "1", "e", "", "s", " 0x10\n", "m", "-9223372036854775808", "", "9", "1", "9", "a b", "9"), []row{
		{"x", 7, "", api.OK}, {"x=2", 2, "x 2", api.OK}, {"x+=2", 9, "x 9", api.OK}, {"x-=2", 5, "x 5", api.OK}, {"x*=2", 14, "x 14", api.OK}, {"x/=2", 3, "x 3", api.OK}, {"x%=4", 3, "x 3", api.OK}, {" x \n += \t 2 ", 9, "x 9", api.OK},
		{"y=-3", -3, "y -3", api.OK}, {"y+=3", 3, "y 3", api.OK}, {"y-=3", -3, "y -3", api.OK}, {"y*=3", 0, "y 0", api.OK}, {"y/=3", 0, "y 0", api.OK}, {"y%=3", 0, "y 0", api.OK}, {"y=0x10", 16, "y 16", api.OK}, {"y=010", 8, "y 8", api.OK}, {"y=m", minus63, "y -9223372036854775808", api.OK}, {"(y=m)+y", 0, "y -9223372036854775808", api.OK},
		{"e", 0, "", api.OK}, {"none", 0, "", api.OK}, {"s", 16, "", api.OK}, {"s+=1", 17, "s 17", api.OK}, {"-m", minus63, "", api.OK}, {"m-1", math.MaxInt64, "", api.OK},
		{"bad", 0, "", api.ErrSyntax}, {"bad=3", 3, "bad 3", api.OK}, {"bad+=3", 0, "", api.ErrSyntax}, {"(bad=3)+bad", 6, "bad 3", api.OK}, {"bad+(bad=3)", 0, "", api.ErrSyntax}, {"bad+=bad=3", 6, "bad 3; bad 6", api.OK},
		{"(x=3)+x", 6, "x 3", api.OK}, {"x+(x=3)", 10, "x 3", api.OK}, {"x+(x=3)+x", 13, "x 3", api.OK}, {"x+=x-=2", 10, "x 5; x 10", api.OK}, {"x=x=x+1", 8, "x 8; x 8", api.OK}, {"x=(x=1)+(x=2)", 3, "x 1; x 2; x 3", api.OK}, {"x-=(x=1)", 0, "x 1; x 0", api.OK}, {"(x+=1)*(x+=1)", 72, "x 8; x 9", api.OK}, {"x*=x+=x", 14 * 14, "x 14; x 196", api.OK},
		{"y=z=x", 7, "z 7; y 7", api.OK}, {"(y=1)+(z=y+1)+(y=z+1)+y", 9, "y 1; z 2; y 3", api.OK}, {"x=x", 7, "x 7", api.OK}, {"X=x", 7, "X 7", api.OK}, {"_1=x", 7, "_1 7", api.OK}, {"xx=x", 7, "xx 7", api.OK},
		{"y=1/0", 0, "", api.ErrDiv}, {"(y=1)+1/0", 0, "", api.ErrDiv}, {"(y=1)+bad", 0, "", api.ErrSyntax}, {"y/=0", 0, "", api.ErrDiv}, {"x%=0", 0, "", api.ErrDiv}, {"m/=-1", minus63, "m -9223372036854775808", api.OK}, {"m%=-1", 0, "m 0", api.OK}, {"m*=-1", minus63, "m -9223372036854775808", api.OK}, {"m-=1", math.MaxInt64, "m 9223372036854775807", api.OK},
	})
}

// TestFirstWrong: P3.2, of what goes wrong the first one is told, and a text that is no expression ahead of all.
func TestFirstWrong(t *testing.T) {
	checkRows(t, pairs("bad", "a", "big", "9223372036854775808", "x", "5"), []row{
		{"1/0 + bad", 0, "", api.ErrDiv}, {"bad + 1/0", 0, "", api.ErrSyntax}, {"1/0 + big", 0, "", api.ErrDiv}, {"big + 1/0", 0, "", api.ErrSyntax}, {"bad / 0", 0, "", api.ErrSyntax}, {"1 / 0 / bad", 0, "", api.ErrDiv}, {"1 / (0 * bad)", 0, "", api.ErrSyntax},
		{"bad /= 0", 0, "", api.ErrSyntax}, {"bad += 1/0", 0, "", api.ErrDiv}, {"x /= bad", 0, "", api.ErrSyntax}, {"x %= 0", 0, "", api.ErrDiv}, {"bad = 1/0", 0, "", api.ErrDiv}, {"1/0 ? bad : 1", 0, "", api.ErrDiv}, {"bad ? 1/0 : 1", 0, "", api.ErrSyntax}, {"x ? 1/0 : bad", 0, "", api.ErrDiv}, {"!x ? 1/0 : bad", 0, "", api.ErrSyntax}, {"1/0 || bad", 0, "", api.ErrDiv}, {"bad && 1/0", 0, "", api.ErrSyntax}, {"-(1/0) + bad", 0, "", api.ErrDiv}, {"-bad + 1/0", 0, "", api.ErrSyntax}, {"(y = 1/0) + bad", 0, "", api.ErrDiv},
		{"1/0 +", 0, "", api.ErrSyntax}, {"1/0 )", 0, "", api.ErrSyntax}, {"(y = 1) + 1/0 + 08", 0, "", api.ErrSyntax}, {"(y = 1) 2", 0, "", api.ErrSyntax}, {"1/0 9223372036854775808", 0, "", api.ErrSyntax}, {"1/0, 1", 0, "", api.ErrSyntax},
	})
}

// edges are numbers around which sums wrap, shifts turn and signs change.
func edges() []int {
	var l []int
	for _, n := range []int{0, 5, 31, 63, 127, 1 << 32, 3037000500, 1 << 62, math.MaxInt64} {
		for _, d := range []int{-1, 0, 1} {
			l = append(l, n+d, -n-d)
		}
	}
	return l
}

// TestOperators: P3.2 and P3.3, each operator of numbers at the edges.
func TestOperators(t *testing.T) {
	for _, a := range edges() {
		for _, b := range edges() {
			vars := pairs("a", strconv.Itoa(a), "b", strconv.Itoa(b))
			for _, level := range ranks {
				for _, op := range level {
					n, _, e := wantEval("a"+op+"b", vars)
					check(t, "a"+op+"b", vars, n, nil, e)
					check(t, "a "+op+" ( b )", vars, n, nil, e)
				}
			}
			for _, op := range []string{"", "+", "-", "*", "/", "%"} {
				n, sets, e := wantEval("a"+op+"=b", vars)
				check(t, "a"+op+"=b", vars, n, sets, e)
			}
		}
		vars := pairs("a", strconv.Itoa(a))
		check(t, "+a", vars, a, nil, api.OK)
		check(t, "-a", vars, -a, nil, api.OK)
		check(t, "~a", vars, -a-1, nil, api.OK)
		n, _, e := wantEval("!a", vars)
		check(t, "!a", vars, n, nil, e)
	}
}

// TestGoSums: P3.3, sums wrap as Go's numbers do.
func TestGoSums(t *testing.T) {
	most, one := math.MaxInt64, 1
	vars := pairs("most", "9223372036854775807", "least", "-9223372036854775808")
	checkRows(t, vars, []row{
		{"most + 1", most + one, "", api.OK}, {"least - 1", most, "", api.OK}, {"most * 2", -2, "", api.OK}, {"most * most", 1, "", api.OK}, {"least * least", 0, "", api.OK}, {"least * -1", minus63, "", api.OK}, {"-least", minus63, "", api.OK}, {"least / -1", minus63, "", api.OK}, {"least % -1", 0, "", api.OK}, {"least + least", 0, "", api.OK},
		{"7 / 2", 3, "", api.OK}, {"7 / -2", -3, "", api.OK}, {"-7 / -2", 3, "", api.OK}, {"7 % -2", 1, "", api.OK}, {"-7 % -2", -1, "", api.OK}, {"7 % 0", 0, "", api.ErrDiv}, {"least / 0", 0, "", api.ErrDiv}, {"0 / 0", 0, "", api.ErrDiv},
		{"1 << 63", minus63, "", api.OK}, {"1 << 64", 1, "", api.OK}, {"1 << 65", 2, "", api.OK}, {"3 << 63", minus63, "", api.OK}, {"1 << -1", minus63, "", api.OK}, {"1 << -64", 1, "", api.OK}, {"-1 >> 63", -1, "", api.OK}, {"-8 >> 1", -4, "", api.OK}, {"least >> 63", -1, "", api.OK}, {"most >> 62", 1, "", api.OK}, {"8 >> 65", 4, "", api.OK}, {"8 >> -1", 0, "", api.OK}, {"8 >> -63", 4, "", api.OK}, {"1 << least", 1, "", api.OK}, {"1 << most", minus63, "", api.OK},
	})
}

// checkOracle holds Eval against the oracle.
func checkOracle(t *testing.T, s string, vars []arith.Pair) {
	t.Helper()
	n, sets, e := wantEval(s, vars)
	check(t, s, vars, n, sets, e)
}

// TestShort goes through all short texts of some bytes, and of some parts: P3.2.
func TestShort(t *testing.T) {
	vars := pairs("x", "5", "y", "0", "x", "6", "b", "a")
	with := func(s string) { checkOracle(t, s, vars) }
	texts(bytesOf("x1+=?:() "), 5, with)
	texts(bytesOf("x1+=?:"), 6, with)
	texts(bytesOf("x-=()"), 6, with)
	texts(bytesOf("x0=<>&|!"), 5, with)
	texts(bytesOf("xb07_-*/%^~,\t\n"), 4, with)
	texts([]string{"x", "y=", "0", "/", "||", "?", ":", "(", ")"}, 5, with)
	texts([]string{"b", "x+=", "1", "-", "<<", "==", "!", "&&"}, 5, with)
}

// TestBytes: P3.2 of every byte, alone and beside parts.
func TestBytes(t *testing.T) {
	vars := pairs("x", "5", "x1", "6")
	for c := range 256 {
		b := string([]byte{byte(c)})
		for _, s := range []string{b, "1" + b, b + "1", "x" + b, b + "x", "x" + b + "1", "0" + b, "0x" + b, "0" + b + "1", "1 " + b + " 1", "x " + b + "= 1", "x =" + b + "1", "(" + b + ")", "1" + b + b + "1", "x" + b + "=" + "x"} {
			checkOracle(t, s, vars)
		}
	}
}

// TestMixes holds expressions that are written by a rule, with as few brackets as their ranks ask for,
// against what they were written from: P3.2 and P3.3.
func TestMixes(t *testing.T) {
	vars := pairs("x", "5", "y", "-3", "z", "0", "big", "9223372036854775807", "bad", "1 1", "none", "")
	w := writer{state: 1}
	for range 20000 {
		tree := w.tree(5)
		n, sets, e := wantNode(tree, vars)
		plain := w.text(tree, 0)
		check(t, plain, vars, n, sets, e)
		check(t, "( "+plain+")", vars, n, sets, e)
		check(t, w.bracketed(tree), vars, n, sets, e)
	}
}

// TestBrackets: P3.3, brackets around an expression change nothing.
func TestBrackets(t *testing.T) {
	vars := pairs("x", "5", "bad", "a")
	for _, s := range []string{"1", "x", "x=1", "x+=bad", "1/0", "x?y=1:2", "1?2:3", "-x", "0||x", "bad", "1+", "x=", "(", ")", "1,2", "(x=3)*x"} {
		n, sets, e := arith.Eval(s, vars)
		check(t, "("+s+")", vars, n, sets, e)
		check(t, " ( ("+s+" )\n)\t", vars, n, sets, e)
		check(t, "(("+s+")", vars, 0, nil, api.ErrSyntax)
		check(t, "("+s+"))", vars, 0, nil, api.ErrSyntax)
	}
	// What is nothing is a number, but not within brackets.
	check(t, "( )", vars, 0, nil, api.ErrSyntax)
}

// TestRules: R1 to R3.
func TestRules(t *testing.T) {
	store := pairs("x", "5", "y", "6", "behind", "7")
	kept := slices.Clone(store)
	vars := store[:2]
	n, sets, e := arith.Eval("(x = 1) + (y = 2) + (z = 3) + behind", vars)
	if n != 6 || told(sets) != "x 1; y 2; z 3" || e != api.OK {
		t.Error(n, sets, e)
	}
	if !slices.Equal(store, kept) {
		t.Error("what was handed in was written into:", store)
	}
	// What one call answers is the caller's: another one doesn't change it, nor does its change another call.
	again := slices.Clone(sets)
	for i := range sets {
		sets[i] = arith.Pair{}
	}
	_ = append(sets, arith.Pair{Name: "more"})
	for range 50 {
		n, sets, e = arith.Eval("(x = 1) + (y = 2) + (z = 3) + behind", vars)
		if n != 6 || !slices.Equal(sets, again) || e != api.OK {
			t.Fatal(n, sets, e)
		}
	}
	// Nothing that one call sets is known to the next one.
	check(t, "x + y + z", vars, 11, nil, api.OK)
	for _, s := range []string{"(x = 1) / 0", "(x = 1) + bad", "(x = 1) +", strings.Repeat(" ", 4097)} {
		if n, sets, e := arith.Eval(s, pairs("bad", "b")); n != 0 || len(sets) != 0 || e == api.OK {
			t.Errorf("Eval(%.50q): %d, %v, %v", s, n, sets, e)
		}
	}
}

// TestManyPairs: P3.2 with a long list of pairs, and with long values.
func TestManyPairs(t *testing.T) {
	var vars []arith.Pair
	for i := range 10000 {
		vars = append(vars, arith.Pair{Name: "n" + strconv.Itoa(i%5000), Value: strconv.Itoa(i)})
	}
	check(t, "n0 + n4999 + n5000", vars, 4999, nil, api.OK)
	long := pairs("x", strings.Repeat("0", 1<<20)+"7")
	check(t, "x"+strings.Repeat("+x", 2000), long, 7*2001, nil, api.OK)
}
