package vars_test

import (
	"math"
	"slices"
	"strings"
	"testing"

	"conch/api"
	"conch/vars"
)

// wantArgs holds the arguments against texts, asked in each way.
func wantArgs(t *testing.T, v *vars.Vars, want ...string) {
	t.Helper()
	if l := v.Args(); !slices.Equal(l, want) {
		t.Errorf("Args() = %q, want %q", l, want)
	}
	wantParam(t, v, "@", strings.Join(want, " "), len(want) > 0)
	wantParam(t, v, "*", strings.Join(want, " "), len(want) > 0)
	wantParam(t, v, "#", digits(len(want)), true)
	for i, s := range want {
		wantParam(t, v, digits(i+1), s, true)
	}
	wantParam(t, v, digits(len(want)+1), "", false)
}

// digits writes a number from 0 to 999.
func digits(n int) string {
	s := string([]byte{'0' + byte(n/100), '0' + byte(n/10%10), '0' + byte(n%10)})
	return strings.TrimLeft(s[:2], "0") + s[2:]
}

// wantParam holds what Param answers against a text.
func wantParam(t *testing.T, v *vars.Vars, p, text string, there bool) {
	t.Helper()
	if s, is := v.Param(p); s != text || is != there {
		t.Errorf("Param(%.30q) = %q, %v, want %q, %v", p, s, is, text, there)
	}
}

// P8.3, P8.4: the arguments are those that were set last; zero stays.
func TestSetArgs(t *testing.T) {
	v := vars.New("sh", "a", "b")
	for _, args := range [][]string{{}, {"c"}, {"d", "e", "f"}, {""}, {"", ""}, {"a b", " ", "c"}, nil, {"x=1"}, {"\x00", "\xff\n"}} {
		v.SetArgs(args...)
		wantArgs(t, v, args...)
		wantParam(t, v, "0", "sh", true)
	}
	v.SetArgs()
	wantArgs(t, v)
}

// P8.3: Shift of each number, from each number of arguments.
func TestShift(t *testing.T) {
	all := []string{"a", "", "c", "d d"}
	for have := range len(all) + 1 {
		for n := -2; n < have+3; n++ {
			v := vars.New("sh", all[:have]...)
			want, left := api.OK, all[:have]
			if n < 0 || n > have {
				want = api.ErrArg
			} else {
				left = left[n:]
			}
			if e := v.Shift(n); e != want {
				t.Errorf("Shift(%d) of %d = %v, want %v", n, have, e, want)
			}
			wantArgs(t, v, left...)
			wantParam(t, v, "0", "sh", true)
		}
	}
}

// P8.3: Shift of what is no number of arguments by far.
func TestShiftFar(t *testing.T) {
	v := vars.New("sh", "a", "b")
	for _, n := range []int{math.MinInt, math.MinInt32, -1, 3, 1 << 32, 1<<32 + 1, math.MaxInt} {
		if e := v.Shift(n); e != api.ErrArg {
			t.Errorf("Shift(%d) = %v, want ErrArg", n, e)
		}
	}
	wantArgs(t, v, "a", "b")
}

// P8.3: one Shift behind the other, and arguments set behind them.
func TestShiftOneByOne(t *testing.T) {
	v := vars.New("sh", "a", "b", "c")
	for _, left := range [][]string{{"b", "c"}, {"c"}, {}} {
		wantErrors(t, []api.Errno{v.Shift(0), v.Shift(1)}, api.OK, api.OK)
		wantArgs(t, v, left...)
	}
	wantErrors(t, []api.Errno{v.Shift(1), v.Shift(0)}, api.ErrArg, api.OK)
	v.SetArgs("d", "e")
	wantErrors(t, []api.Errno{v.Shift(1)}, api.OK)
	wantArgs(t, v, "e")
}

// P8.3: very many arguments are dropped one by one.
func TestShiftMany(t *testing.T) {
	const many = 200000
	v := vars.New("sh", slices.Repeat([]string{"a"}, many-1)...)
	v.SetArgs(append(v.Args(), "z")...)
	for i := range many {
		want := "a"
		if i == many-1 {
			want = "z"
		}
		if s, is := v.Param("1"); s != want || !is {
			t.Fatalf("Param(1) behind %d = %q, %v", i, s, is)
		}
		if e := v.Shift(1); e != api.OK {
			t.Fatalf("Shift(1) behind %d = %v", i, e)
		}
	}
	wantArgs(t, v)
}

// P8.3, P8.4: the status is any number.
func TestStatus(t *testing.T) {
	v := vars.New("sh", "a")
	for n, text := range map[int]string{
		0: "0", 1: "1", 127: "127", 255: "255", 256: "256", 1000: "1000", -1: "-1", -256: "-256",
		math.MaxInt64: "9223372036854775807", math.MinInt64: "-9223372036854775808",
	} {
		v.SetStatus(n)
		if got := v.Status(); got != n {
			t.Errorf("Status() = %d, want %d", got, n)
		}
		wantParam(t, v, "?", text, true)
	}
	wantArgs(t, v, "a")
	wantAll(t, v)
}

// P8.3: no other call turns the status.
func TestStatusStays(t *testing.T) {
	v := vars.New("sh", "a")
	v.SetStatus(7)
	v.Set("1", "")
	v.Set("x", "1")
	v.Readonly("x")
	v.Set("x", "2")
	v.Unset("x")
	v.Export("x")
	v.Shift(9)
	v.Shift(1)
	v.SetArgs("b")
	v.Param("9")
	if n := v.Status(); n != 7 {
		t.Errorf("Status() = %d, want 7", n)
	}
}

// P8.4: numbers of arguments, of one digit and of more.
func TestParamNumbers(t *testing.T) {
	var args []string
	for i := range 120 {
		args = append(args, "arg"+digits(i+1))
	}
	v := vars.New("sh", args...)
	wantArgs(t, v, args...)
	for n := range 300 {
		switch {
		case n == 0:
			wantParam(t, v, "0", "sh", true)
		case n <= 120:
			wantParam(t, v, digits(n), "arg"+digits(n), true)
		default:
			wantParam(t, v, digits(n), "", false)
		}
		wantParam(t, v, "0"+digits(n), "", false)
		wantParam(t, v, "00"+digits(n), "", false)
	}
}

// P8.4: digits that are no argument's number: with noughts ahead, and so many that a number wraps round.
func TestParamNoNumbers(t *testing.T) {
	v := vars.New("sh", "a", "b")
	for _, p := range []string{
		"00", "000", "01", "001", "02", "03", "3", "10", "12", "20", "21", "99",
		"4294967296", "4294967297", "4294967298", "9223372036854775807", "9223372036854775808",
		"18446744073709551615", "18446744073709551616", "18446744073709551617", "18446744073709551618",
		"340282366920938463463374607431768211457", strings.Repeat("1", 5000), "1" + strings.Repeat("0", 5000), strings.Repeat("0", 5000), strings.Repeat("0", 5000) + "1",
	} {
		wantParam(t, v, p, "", false)
	}
}

// P8.4: all that is neither a name nor digits nor one of the four signs, with arguments and without.
func TestParamOthers(t *testing.T) {
	full := vars.New("sh", "a", "b")
	full.Set("x", "1")
	for _, v := range []*vars.Vars{full, vars.New("sh")} {
		for _, p := range []string{
			"", " ", "-", "!", "$", "@@", "**", "##", "??", "@*", "#1", "1#", "@ ", " @", "-1", "+1", "1 ", " 1", "1x", "1_", "1a", "0x", "0x1", "1.", "0 ", "+0", "-0",
			"x y", "x ", " x", "x-", "x=1", "$x", "${x}", "\x00", "x\x00", "1\x00", "\n", "1\n", "\xe1", "1\xff", "٣", "é",
		} {
			wantParam(t, v, p, "", false)
		}
		for c := range 256 {
			if p := string([]byte{byte(c)}); !strings.Contains("0123456789#?@*x", p) {
				wantParam(t, v, p, "", false)
			}
		}
	}
}

// P8.4: `@` and `*` with no argument, with one, also an empty one, and with several.
func TestParamAll(t *testing.T) {
	for _, c := range []struct {
		args  []string
		text  string
		there bool
	}{
		{nil, "", false}, {[]string{""}, "", true}, {[]string{"a"}, "a", true}, {[]string{"a b"}, "a b", true}, {[]string{"a", "b"}, "a b", true},
		{[]string{"", ""}, " ", true}, {[]string{"", "", ""}, "  ", true}, {[]string{"a", "", "c"}, "a  c", true}, {[]string{" ", "\n"}, "  \n", true},
	} {
		v := vars.New("sh", c.args...)
		v.Set("IFS", ":")
		wantParam(t, v, "@", c.text, c.there)
		wantParam(t, v, "*", c.text, c.there)
	}
}

// P8.4: a name's Param is its Get, also of one that is exported or read only and not set.
func TestParamNames(t *testing.T) {
	v := vars.New("sh", "a")
	v.Set("x", "1")
	v.Set("empty", "")
	v.Export("e")
	v.Readonly("r")
	for _, c := range []vars.Var{{Name: "x", Value: "1", Set: true}, {Name: "empty", Set: true}, {Name: "e"}, {Name: "r"}, {Name: "none"}, {Name: "_"}} {
		wantParam(t, v, c.Name, c.Value, c.Set)
	}
}
