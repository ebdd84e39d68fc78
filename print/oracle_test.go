package print_test

import (
	"strconv"
	"strings"

	"conch/api"
	"conch/parse"
	"conch/word"
)

// cannot is what is told by a panic: a command that can't be written.
type cannot struct{}

// oracle is what Print answers: the chapter's words, text by text.
func oracle(c api.Cmd) (text string, e api.Errno) {
	defer func() {
		if r := recover(); r != nil {
			_ = r.(cannot)
			text, e = "", api.ErrArg
		}
	}()
	var places []string
	text = oracleLine(c, &places)
	if len(places) > 0 {
		text += "\n" + strings.Join(places, "")
	}
	if l, _, wrong := parse.Parse(text); wrong != api.OK || len(l) != 1 || !parse.Same(l[0], c) {
		return "", api.ErrArg
	}
	return text, api.OK
}

// oracleWord is a word's text.
func oracleWord(w api.Word) string {
	text, e := word.Print(w)
	if e != api.OK {
		panic(cannot{})
	}
	return text
}

// oracleWords are those of several.
func oracleWords(l []api.Word) []string {
	var out []string
	for _, w := range l {
		out = append(out, oracleWord(w))
	}
	return out
}

// oracleRedir is a redirection's text.
func oracleRedir(r api.Redir, places *[]string) string {
	fd := strconv.Itoa(r.Fd)
	switch r.Kind {
	case api.In:
		return fd + "<" + oracleWord(r.Word)
	case api.Out:
		return fd + ">" + oracleWord(r.Word)
	case api.More:
		return fd + ">>" + oracleWord(r.Word)
	case api.Both:
		return fd + "<>" + oracleWord(r.Word)
	case api.Dup:
		return fd + ">&" + oracleWord(r.Word)
	case api.Here:
		isOne := len(r.Word) == 1 && r.Word[0].Kind == api.Lit && r.Word[0].Quote
		text, e := "", api.OK
		if isOne {
			text = r.Word[0].Text
		} else {
			text, e = word.PrintHere(r.Word)
		}
		if e != api.OK {
			panic(cannot{})
		}
		end := "E"
		for strings.Contains("\n"+text+"\n", "\n"+end+"\n") {
			end += "E"
		}
		*places = append(*places, text+end+"\n")
		if isOne {
			return fd + "<<'" + end + "'"
		}
		return fd + "<<" + end
	}
	panic(cannot{})
}

// oracleCmds are commands' texts.
func oracleCmds(l []api.Cmd, places *[]string) []string {
	var out []string
	for _, c := range l {
		out = append(out, oracleLine(c, places))
	}
	return out
}

// oracleLine is a command's line.
func oracleLine(c api.Cmd, places *[]string) string {
	switch c.Kind {
	case api.Simple:
		var all []string
		for _, l := range c.Lets {
			all = append(all, l.Name+"="+oracleWord(l.Word))
		}
		for _, r := range c.Redirs {
			all = append(all, oracleRedir(r, places))
		}
		return strings.Join(append(all, oracleWords(c.Words)...), " ")
	case api.Pipe:
		text := strings.Join(oracleCmds(c.Cmds, places), " | ")
		if c.Not {
			text = "! " + text
		}
		return text
	case api.And:
		return strings.Join(oracleCmds(c.Cmds, places), " && ")
	case api.Or:
		return strings.Join(oracleCmds(c.Cmds, places), " || ")
	case api.Seq:
		return strings.Join(oracleCmds(c.Cmds, places), "; ")
	}
	text := oracleCompound(c, places)
	for _, r := range c.Redirs {
		text += " " + oracleRedir(r, places)
	}
	return text
}

// oracleCompound is the line of a command of the other kinds, without its Redirs.
func oracleCompound(c api.Cmd, places *[]string) string {
	if n := len(c.Cmds); c.Kind == api.If && n != 2 && n != 3 || (c.Kind == api.While || c.Kind == api.Until) && n != 2 {
		panic(cannot{})
	}
	if c.Kind == api.Case {
		text := "case " + strings.Join(oracleWords(c.Words), " ") + " in "
		for _, i := range c.Items {
			text += "(" + strings.Join(oracleWords(i.Words), "|") + ") " + strings.Join(oracleCmds(i.Body, places), "") + ";; "
		}
		return text + "esac"
	}
	all := oracleCmds(c.Cmds, places)
	joined := strings.Join(all, "")
	switch c.Kind {
	case api.Group:
		return "{ " + joined + "; }"
	case api.Subshell:
		return "(" + joined + ")"
	case api.If:
		text := "if " + all[0] + "; then " + all[1]
		switch {
		case len(all) == 2:
			return text + "; fi"
		case c.Cmds[2].Kind == api.If && len(c.Cmds[2].Redirs) == 0:
			return text + "; el" + all[2]
		}
		return text + "; else " + all[2] + "; fi"
	case api.While:
		return "while " + all[0] + "; do " + all[1] + "; done"
	case api.Until:
		return "until " + all[0] + "; do " + all[1] + "; done"
	case api.For:
		in := " in"
		for _, w := range oracleWords(c.Words) {
			in += " " + w
		}
		if c.Every {
			in = ""
		}
		return "for " + c.Name + in + "; do " + joined + "; done"
	case api.Func:
		return c.Name + "() " + joined
	}
	panic(cannot{})
}
