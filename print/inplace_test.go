package print_test

import (
	"strings"
	"testing"

	"conch/api"
)

// P7.1: Here of one quoted Lit: the text as it is, and the end line in quotes.
func TestRawInPlace(t *testing.T) {
	check(t,
		pair{with(a, raw(0, "")), "0<<'E' a\nE\n"},
		pair{with(a, raw(0, "b\n")), "0<<'E' a\nb\nE\n"},
		pair{with(a, raw(3, "b\n\nc d\n")), "3<<'E' a\nb\n\nc d\nE\n"},
		pair{with(a, raw(999, "\n")), "999<<'E' a\n\nE\n"},
		pair{with(a, raw(0, "$x ${y}\n$(\n`\n\"'\\\n\\$\n\\")), ""},
		pair{with(a, raw(0, "$x ${y}\n$(\n`\n\"'\\\n\\$\n")), "0<<'E' a\n$x ${y}\n$(\n`\n\"'\\\n\\$\nE\n"},
		pair{with(a, raw(0, "\tb\n \x00\xff\n")), "0<<'E' a\n\tb\n \x00\xff\nE\n"},
		pair{with(api.Cmd{Kind: api.Simple}, raw(0, "b\n")), "0<<'E'\nb\nE\n"},
	)
	// A text whose last line doesn't end is none: its end line would be no line.
	refused(t, with(a, raw(0, "b")), with(a, raw(0, "b\nc")), with(a, raw(0, "E")), with(a, raw(0, "b\nE")), with(a, raw(-1, "b\n")), with(a, raw(1000, "b\n")))
	// Fields that a Lit has not.
	for _, p := range []api.Part{{Op: 1}, {Colon: true}, {Word: w("a")}} {
		p.Kind, p.Text, p.Quote = api.Lit, "b\n", true
		refused(t, with(a, api.Redir{Kind: api.Here, Word: api.Word{p}}))
	}
}

// P7.1: Here of other words: word.PrintHere of it.
func TestExpandedInPlace(t *testing.T) {
	check(t,
		pair{with(a, here(0, "")), "0<<E a\nE\n"},
		pair{with(a, api.Redir{Kind: api.Here, Word: api.Word{}}), "0<<E a\nE\n"},
		pair{with(a, here(0, "b\n")), "0<<'E' a\nb\nE\n"},
		pair{with(a, here(0, "\\$x\n")), "0<<'E' a\n$x\nE\n"},
		pair{with(a, here(0, "$x\n")), "0<<E a\n${x}\nE\n"},
		pair{with(a, here(7, "b $x \\$y \"' \\\\ ${z:-c}\n$(d)$((1))\n")), "7<<E a\nb ${x} \\$y \"' \\\\ ${z:-c}\n$(d)$((1))\nE\n"},
		pair{with(of(api.Group, a), here(0, "$x\n")), "{ a; } 0<<E\n${x}\nE\n"},
	)
	var other api.Word
	other = append(other, api.Part{Kind: api.Lit, Text: "b\n"})
	refused(t, with(a, here(0, "$x")), with(a, here(0, "$x\nE")), with(a, here(0, "$x\n$y")), with(a, api.Redir{Kind: api.Here, Word: other}), with(a, api.Redir{Kind: api.Here, Word: w("$x")}), with(a, api.Redir{Kind: api.Here, Word: api.Word{{Kind: api.Var, Quote: true, Text: "x", Op: 99}}}),
		with(a, api.Redir{Kind: api.Here, Word: append(raw(0, "b\n").Word, raw(0, "c\n").Word...)}), with(a, api.Redir{Kind: api.Here, Word: append(raw(0, "").Word, here(0, "$x\n").Word...)}))
}

// P7.1: the end line is the shortest one that is no line of the text: not its first one, nor its last one.
func TestEndLines(t *testing.T) {
	for text, end := range map[string]string{
		"E\n": "EE", "b\nE\n": "EE", "E\nb\n": "EE", "b\nE\nc\n": "EE", "EE\n": "E", "E\nEE\n": "EEE", "EE\nE\n": "EEE", "E\nEEE\n": "EE", "E\n\nEE\n\nEEE\nb\n": "EEEE",
		" E\n": "E", "E \n": "E", "\tE\n": "E", "eE\n": "E", "e\n": "E", "\n": "E", "E\r\n": "E", "'E'\n": "E", "E\nE\n": "EE", "EEEE\nEE\nE\n": "EEE",
	} {
		check(t, pair{with(a, raw(0, text)), "0<<'" + end + "' a\n" + text + end + "\n"})
		check(t, pair{with(a, here(0, "$x\n"+text)), "0<<" + end + " a\n${x}\n" + text + end + "\n"})
		check(t, pair{with(a, here(0, text+"$x\n")), "0<<" + end + " a\n" + text + "${x}\n" + end + "\n"})
	}
	// Lines of what is written count, also those within a part.
	check(t,
		pair{with(a, here(0, "${x-b\nE\nc}\n")), "0<<EE a\n${x-b\nE\nc}\nEE\n"},
		pair{with(a, here(0, "$(b\nE\nEE\n)\n")), "0<<EEE a\n$(b\nE\nEE\n)\nEEE\n"},
		pair{with(a, here(0, "$E\nE\n")), "0<<EE a\n${E}\nE\nEE\n"},
	)
	lines := ""
	for n := range 80 {
		lines += strings.Repeat("E", n+1) + "\n"
	}
	end := strings.Repeat("E", 81)
	check(t, pair{with(a, raw(0, lines)), "0<<'" + end + "' a\n" + lines + end + "\n"})
}

// P7.1: several texts in place on one line stand in the order in which they were written, also within other commands.
func TestSeveralInPlace(t *testing.T) {
	one, two, three := raw(0, "1\n"), raw(4, "2\nE\n"), here(0, "$x\n")
	const places = "\n1\nE\n2\nE\nEE\n${x}\nE\n"
	check(t,
		pair{with(a, one, two, three), "0<<'E' 4<<'EE' 0<<E a" + places},
		pair{with(a, one, to(1, api.Out, "f"), two, three), "0<<'E' 1>f 4<<'EE' 0<<E a" + places},
		pair{with(a, two, one), "4<<'EE' 0<<'E' a\n2\nE\nEE\n1\nE\n"},
		pair{of(api.Pipe, with(a, one), with(b, two), with(c, three)), "0<<'E' a | 4<<'EE' b | 0<<E c" + places},
		pair{not(with(a, one), with(b, two, three)), "! 0<<'E' a | 4<<'EE' 0<<E b" + places},
		pair{of(api.Seq, with(a, one), of(api.And, with(b, two), with(c, three))), "0<<'E' a; 4<<'EE' b && 0<<E c" + places},
		pair{with(of(api.Group, with(a, one)), two, three), "{ 0<<'E' a; } 4<<'EE' 0<<E" + places},
		pair{with(of(api.Subshell, of(api.Or, with(a, one), with(b, two))), three), "(0<<'E' a || 4<<'EE' b) 0<<E" + places},
		pair{of(api.If, with(a, one), with(b, two), with(c, three)), "if 0<<'E' a; then 4<<'EE' b; else 0<<E c; fi" + places},
		pair{with(of(api.If, a, with(b, one), of(api.If, with(c, two), d)), three), "if a; then 0<<'E' b; elif 4<<'EE' c; then d; fi 0<<E" + places},
		pair{of(api.If, a, with(b, one), with(of(api.If, with(c, two), d), three)), "if a; then 0<<'E' b; else if 4<<'EE' c; then d; fi 0<<E; fi" + places},
		pair{with(of(api.While, with(a, one), with(b, two)), three), "while 0<<'E' a; do 4<<'EE' b; done 0<<E" + places},
		pair{with(of(api.Until, with(a, one), with(b, two)), three), "until 0<<'E' a; do 4<<'EE' b; done 0<<E" + places},
		pair{with(each("i", with(a, one), "b"), two, three), "for i in b; do 0<<'E' a; done 4<<'EE' 0<<E" + places},
		pair{with(choice("a", item([]api.Cmd{with(a, one)}, "b"), item([]api.Cmd{with(b, two)}, "c")), three), "case a in (b) 0<<'E' a;; (c) 4<<'EE' b;; esac 0<<E" + places},
		pair{with(function("f", of(api.Group, with(a, one, two))), three), "f() { 0<<'E' 4<<'EE' a; } 0<<E" + places},
		pair{of(api.Seq, with(s("'a\nb'"), one), with(c, two, three)), "0<<'E' 'a\nb'; 4<<'EE' 0<<E c" + places},
	)
	refused(t, of(api.Pipe, with(a, one), with(b, raw(0, "2"))), of(api.Pipe, with(a, raw(0, "1")), with(b, two)))
}
