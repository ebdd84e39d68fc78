package print_test

import (
	"strings"
	"testing"

	"conch/api"
	"conch/parse"
	"conch/print"
)

// P7.1: commands that are made by a rule, some of them with faults, against the oracle.
func TestMade(t *testing.T) {
	printed, all := 0, 0
	for _, odd := range []int{0, 5, 50} {
		g := &writer{state: uint64(odd), odd: odd}
		for i := range 4000 {
			c := g.list(i % 4)
			want, wrong := oracle(c)
			got, e := print.Print(c)
			if got != want || e != wrong {
				t.Fatalf("Print: %q, %v; want %q, %v", got, e, want, wrong)
			}
			if odd == 0 && e != api.OK && len(want) <= api.MaxText && sizeOf(c) <= api.MaxText {
				t.Fatalf("a command without a fault is refused: %v", c)
			}
			if all++; e == api.OK {
				printed++
			}
		}
	}
	if printed < all/2 || printed > all*9/10 {
		t.Errorf("%d of %d were printed", printed, all)
	}
}

// sizeOf is how many bytes are written of a command that can be written, whatever they are parsed as.
func sizeOf(c api.Cmd) int {
	var places []string
	return len(oracleLine(c, &places)) + 1 + len(strings.Join(places, ""))
}

// P7.2: lists of such commands, against the oracle one by one.
func TestMadeLines(t *testing.T) {
	seen := map[api.Errno]int{}
	g := &writer{state: 1}
	for i := range 3000 {
		g.odd = 8 * (i % 2)
		var l []api.Cmd
		for range g.pick(6) {
			l = append(l, g.list(g.pick(3)))
		}
		if i%10 == 0 {
			l = append(l, s(strings.Repeat("a", 4060+g.pick(36))))
		}
		want, wrong := "", api.OK
		for _, c := range l {
			text, e := oracle(c)
			if e != api.OK {
				wrong = e
				break
			}
			if want += text; !strings.HasSuffix(text, "\n") {
				want += "\n"
			}
		}
		if wrong == api.OK && len(want) > 4096 {
			wrong = api.ErrBig
		}
		if wrong != api.OK {
			want = ""
		}
		checkLines(t, want, wrong, l...)
		seen[wrong]++
	}
	if seen[api.OK] < 500 || seen[api.ErrArg] < 250 || seen[api.ErrBig] < 100 {
		t.Errorf("%v", seen)
	}
}

// checkThrough holds a script that is parsed, printed, parsed and printed again; it tells whether it was printed.
func checkThrough(t *testing.T, script string) bool {
	t.Helper()
	l, _, wrong := parse.Parse(script)
	if wrong != api.OK {
		return false
	}
	text, e := print.Lines(l)
	marks := 0
	for _, mark := range []string{`"`, "{", "("} {
		marks += strings.Count(script, mark)
	}
	must := len(script) <= 300 && marks <= 37 && !strings.Contains(script, "\\\n")
	if e != api.OK {
		if must {
			t.Fatalf("Lines of %q: %v", script, e)
		}
		return false
	}
	checkParsed(t, text, l...)
	again, _, _ := parse.Parse(text)
	if twice, e := print.Lines(again); twice != text || e != api.OK {
		t.Fatalf("Lines of %q: %q; of that %q, %v", script, text, twice, e)
	}
	// Each of the lines alone is printed as it is among others.
	whole := ""
	for _, c := range l {
		one, e := print.Print(c)
		if e != api.OK {
			t.Fatalf("Print, of %q: %v", script, e)
		}
		checkParsed(t, one, c)
		whole += strings.TrimSuffix(one, "\n") + "\n"
	}
	if whole != text {
		t.Fatalf("Lines of %q: %q; line by line %q", script, text, whole)
	}
	return must
}

// P7.3: what is parsed can be printed, and is parsed as the same: scripts of each kind, and at the edges.
func TestThrough(t *testing.T) {
	for _, script := range []string{
		"", "\n", "# a", "a", "a # b", "a;", "a\n\nb;c", "! a|b", "a && b || c | d", "{ a;b\n}>f", "{ (a) }", "(a)", "((a);(b))", "if a\nthen b\nfi", "if a;then b;else if c;then d;fi;fi", "if a;then b;else if c;then d;fi >f;fi",
		"if a;then b;elif c;then d;else e;fi 2>&1", "while a;do b;done <f", "until a\ndo b\ndone 2>&1", "for i do a;done", "for i\ndo a;done", "for i;do a;done", "for i in;do a;done", "for i in a 'b c'\ndo a;done", "case $x in a|b) c;; *) esac", "case a in esac", "case a in (esac) b;; c) d; e\nesac >f", "case a in b) ;; c)\n;; esac",
		"f(){ a;}", "f()\n(a) >g", "f() if a;then b;fi", "x=1 y= a", "x=1", ">f", ">f if", ">f x=1 <g a 2>>h b", "a <&3 3>&- 4<>f", "<<E\n$x\nE", "a <<X\n$x\nX\n", "a <<'X'\nE\nX", "a <<-X\n\t\tb\n\tE\n\tX", "a <<\"\"\nE\n\n", "a <<A | b <<B\n1\nA\n2\nB\n", "a <<A\n$x\nE\nEE\nA\nb",
		"(a <<A\n1\nA\nb <<A\n2\nA\n) <<A\n$x\nA", "if a <<A\n1\nA\nthen b <<B; fi <<C\n2\nB\n3\nC\n", "case a in b) c <<A;; d) e <<A\n1\nA\n2\nA\nesac", "$(a <<E\nb\nE\n)", "a \"$(b <<E\nc\nE\n)\" <<E\nE\nE", "a 'b\nc' \"d\n$e\" ${f:-g\nh}", "a\\#b \\# '#'", "'if' i\\f \\if \"if\"", "x\\=1 'x'=1 x\"\"=1", "a 2\\>b 2 >c", "007>f", "\x00 \xff", "a \\", "a <<E\n\\\\ $x\nE\n", "a <<\\E\n$x\nE\n", "a <<'E'\n`\nE", "a <<F\n${x-E\nE\n}\nF\n", "a <<'F'\nE\nF\n",
		strings.Repeat("(", 37) + "a" + strings.Repeat(")", 37), strings.Repeat("{ ", 37) + "a" + strings.Repeat("\n}", 37), strings.Repeat("${x-", 37) + strings.Repeat("}", 37), strings.Repeat("$(", 37) + strings.Repeat(")", 37), `"` + strings.Repeat("${x-", 35) + "a" + strings.Repeat("}", 35) + `"`, strings.Repeat("${x#", 35) + `"a"` + strings.Repeat("}", 35),
		strings.Repeat("$x", 150), `"` + strings.Repeat("$x", 149) + `"`, `"` + strings.Repeat("'", 298) + `"`, strings.Repeat(`\'a`, 100), strings.Repeat("a|", 149) + "a", strings.Repeat("a;", 150), strings.Repeat("a\n", 150), strings.Repeat("<a", 150), strings.Repeat("$a\\'", 75), strings.Repeat("a;", 149) + "aa", "case a in " + strings.Repeat("a);;", 71) + " esac", strings.Repeat("if if a;then a;fi;then a;fi;", 10),
		"a <<''" + strings.Repeat("\n'", 100) + "\n\n", strings.Repeat("!a\n", 100), strings.Repeat("<<E ", 20) + strings.Repeat("\n$x\nE", 20), strings.Repeat("if a;then ", 21) + "a" + strings.Repeat(";fi", 21),
	} {
		if !checkThrough(t, script) {
			t.Errorf("not to be printed: %q", script)
		}
	}
}

// P7.3: scripts that are written by a rule, and such of which something is missing, or twice there.
func TestWrittenThrough(t *testing.T) {
	g, printed := &writer{state: 2}, 0
	for i := range 8000 {
		script := g.script(1+i%3, i%3)
		if _, at, e := parse.Parse(script); e != api.OK {
			t.Fatalf("Parse(%q): %v at %d", script, e, at)
		}
		for range 3 {
			if checkThrough(t, script) {
				printed++
			}
			script = g.spoilt(script)
		}
	}
	if printed < 6000 {
		t.Errorf("only %d were printed", printed)
	}
}

// P7.3: scripts of tokens in any order: all short ones.
func TestShortThrough(t *testing.T) {
	tokens := []string{"a", "if", "then", "fi", "{ ", "}", "(", ")", "\n", ";", ";;", "|", "!", "&&", ">f", "<<E", "\nE\n", "x=1", "2", "for i", "in", "do", "done", "case", "esac", "$x"}
	printed := 0
	var through func(script string, left int)
	through = func(script string, left int) {
		if checkThrough(t, script) {
			printed++
		}
		if left > 0 {
			for _, token := range tokens {
				through(script+" "+token, left-1)
			}
		}
	}
	through("", 3)
	if printed < 2000 {
		t.Errorf("only %d were printed", printed)
	}
}

// P7.3: scripts of such tokens, longer ones.
func TestTokensThrough(t *testing.T) {
	g, printed := &writer{state: 3}, 0
	for range 100000 {
		script := ""
		for range 2 + g.pick(8) {
			script += g.one(" ", " ", "") + g.one("a", "b", "c", "if", "then", "fi", "else", "elif", "{ ", "}", "(", ")", "()", "\n", ";", ";", ";;", "|", "!", "&&", "||", ">f", "2>&1", "<<E", "<<'E'", "\nE\n", "x=1", "2", "for i", "in", "do", "done", "while", "case a in", "a)", "esac", "$x", `"$x"`, `"`, "'", "\\", "#", "=")
		}
		if checkThrough(t, script) {
			printed++
		}
	}
	if printed < 5000 {
		t.Errorf("only %d were printed", printed)
	}
}

// copied is a list with as much room behind it as it is long, in which a mark stands.
func copied[T any](l []T, mark T, inner func(x T) T) []T {
	out := make([]T, 0, 2*len(l)+2)
	for _, x := range l {
		out = append(out, inner(x))
	}
	room := out[:cap(out)]
	for i := len(out); i < len(room); i++ {
		room[i] = mark
	}
	return out
}

// copyWord and copyCmd do that with all that is in a word and a command.
func copyWord(l api.Word) api.Word {
	return copied(l, api.Part{Text: "mark"}, func(p api.Part) api.Part {
		p.Word = copyWord(p.Word)
		return p
	})
}

func copyCmd(c api.Cmd) api.Cmd {
	c.Lets = copied(c.Lets, api.Let{Name: "mark"}, func(l api.Let) api.Let { return api.Let{Name: l.Name, Word: copyWord(l.Word)} })
	c.Words = copied(c.Words, api.Word{{Text: "mark"}}, copyWord)
	c.Redirs = copied(c.Redirs, api.Redir{Fd: 77}, func(r api.Redir) api.Redir { return api.Redir{Fd: r.Fd, Kind: r.Kind, Word: copyWord(r.Word)} })
	c.Cmds = copied(c.Cmds, api.Cmd{Name: "mark"}, copyCmd)
	c.Items = copied(c.Items, api.Item{Body: []api.Cmd{{Name: "mark"}}}, func(i api.Item) api.Item {
		return api.Item{Words: copied(i.Words, api.Word{{Text: "mark"}}, copyWord), Body: copied(i.Body, api.Cmd{Name: "mark"}, copyCmd)}
	})
	return c
}

// stretched is a command whose lists reach as far as there is room.
func stretched(c api.Cmd) api.Cmd {
	c.Lets, c.Words, c.Redirs, c.Cmds, c.Items = c.Lets[:cap(c.Lets)], c.Words[:cap(c.Words)], c.Redirs[:cap(c.Redirs)], c.Cmds[:cap(c.Cmds)], c.Items[:cap(c.Items)]
	return c
}

// R2, R3: what is handed in is not written into, nor what stands behind it; and the answer is the same each time.
func TestWritesNothing(t *testing.T) {
	g := &writer{state: 4, odd: 5}
	for range 2000 {
		c := copyCmd(g.list(2))
		l := []api.Cmd{a, c, b}
		before := copyCmd(stretched(c))
		first, e := print.Print(c)
		lines, f := print.Lines(l)
		if !parse.Same(stretched(c), before) || !parse.Same(l[0], a) || !parse.Same(l[2], b) || len(l) != 3 {
			t.Fatalf("a command is changed: %q", first)
		}
		second, e2 := print.Print(c)
		again, f2 := print.Lines(l)
		if first != second || e != e2 || lines != again || f != f2 {
			t.Fatalf("%q, %v, then %q, %v; %q, %v, then %q, %v", first, e, second, e2, lines, f, again, f2)
		}
	}
}
