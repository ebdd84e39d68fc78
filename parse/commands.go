package parse

import (
	"conch/api"
	"conch/chars"
)

// beginnings are what begins with a reserved word, or with a bracket.
func beginnings() map[string]func(p *parser) api.Cmd {
	return map[string]func(p *parser) api.Cmd{
		"(":     (*parser).subshell,
		"{":     (*parser).group,
		"if":    (*parser).branches,
		"while": (*parser).while,
		"until": (*parser).until,
		"for":   (*parser).each,
		"case":  (*parser).choice,
	}
}

// command reads a command.
func (p *parser) command() api.Cmd {
	switch {
	case p.begins[p.next().Text] != nil:
		return p.compound()
	case p.sees("!", "}", "do", "done", "elif", "else", "esac", "fi", "then"):
		// These are reserved, too, but no command begins with them.
		p.misfit()
		return api.Cmd{}
	case p.seesFunction():
		return p.within((*parser).function)
	}
	return p.simple()
}

// compound reads a command that begins with a reserved word or a bracket, and its redirections.
func (p *parser) compound() api.Cmd {
	read := p.begins[p.next().Text]
	if read == nil {
		p.misfit()
		return api.Cmd{}
	}
	c := p.within(read)
	c.Redirs = p.redirections()
	return c
}

// within reads a command that others may stand in.
func (p *parser) within(read func(p *parser) api.Cmd) api.Cmd {
	if p.deep == api.MaxDeep {
		p.fail(fault{api.ErrBig, p.next().At})
		return api.Cmd{}
	}
	p.deep++
	defer func() { p.deep-- }()
	return read(p)
}

// subshell reads a list in brackets.
func (p *parser) subshell() api.Cmd { return p.enclosed(api.Subshell, ")") }

// group reads a list in braces.
func (p *parser) group() api.Cmd { return p.enclosed(api.Group, "}") }

// enclosed reads a list with a token on each side.
func (p *parser) enclosed(kind int, closing string) api.Cmd {
	p.take()
	c := api.Cmd{Kind: kind, Cmds: []api.Cmd{p.list()}}
	p.want(closing)
	return c
}

// branches reads an If, from its if on, or its elif.
func (p *parser) branches() api.Cmd {
	p.take()
	c := api.Cmd{Kind: api.If, Cmds: []api.Cmd{p.list()}}
	p.want("then")
	c.Cmds = append(c.Cmds, p.list())
	if p.sees("elif") {
		// There is one fi for both of them, which the inner one takes.
		c.Cmds = append(c.Cmds, p.branches())
		return c
	}
	if p.skip("else") {
		c.Cmds = append(c.Cmds, p.list())
	}
	p.want("fi")
	return c
}

// while reads a While.
func (p *parser) while() api.Cmd { return p.loop(api.While) }

// until reads an Until.
func (p *parser) until() api.Cmd { return p.loop(api.Until) }

// loop reads a command of two lists, the second one in a do group.
func (p *parser) loop(kind int) api.Cmd {
	p.take()
	condition := p.list()
	return api.Cmd{Kind: kind, Cmds: []api.Cmd{condition, p.doGroup()}}
}

// doGroup reads a do group, as its list.
func (p *parser) doGroup() api.Cmd {
	p.want("do")
	c := p.list()
	p.want("done")
	return c
}

// each reads a For.
func (p *parser) each() api.Cmd {
	p.take()
	c := api.Cmd{Kind: api.For, Name: p.name()}
	c.Every = p.skip(";")
	p.gap()
	if !c.Every && p.skip("in") {
		c.Words = p.words()
		if !p.end() {
			p.misfit()
		}
	} else {
		c.Every = true
	}
	c.Cmds = []api.Cmd{p.doGroup()}
	return c
}

// name reads a Word that must be a name.
func (p *parser) name() string {
	if !chars.Name(p.next().Text) {
		p.misfit()
	}
	return p.take().Text
}

// words reads all Words that stand there.
func (p *parser) words() []api.Word {
	var l []api.Word
	for p.seesWord() {
		l = append(l, p.word())
	}
	return l
}

// choice reads a Case.
func (p *parser) choice() api.Cmd {
	p.take()
	c := api.Cmd{Kind: api.Case, Words: []api.Word{p.word()}}
	p.gap()
	p.want("in")
	p.gap()
	for !p.sees("esac") {
		c.Items = append(c.Items, p.item())
		if !p.skip(";;") {
			break
		}
		p.gap()
	}
	p.want("esac")
	return c
}

// item reads an item of a Case, up to its ;; or the esac.
func (p *parser) item() api.Item {
	p.skip("(")
	i := api.Item{Words: []api.Word{p.word()}}
	for p.skip("|") {
		i.Words = append(i.Words, p.word())
	}
	p.want(")")
	p.gap()
	if !p.sees(";;", "esac") {
		i.Body = []api.Cmd{p.list()}
	}
	return i
}

// seesFunction tells whether a Func's name is next: that is told by the bracket behind it.
func (p *parser) seesFunction() bool {
	return chars.Name(p.next().Text) && len(p.tokens) > 1 && p.tokens[1].Text == "("
}

// function reads a Func.
func (p *parser) function() api.Cmd {
	c := api.Cmd{Kind: api.Func, Name: p.name()}
	p.want("(")
	p.want(")")
	p.gap()
	body := p.compound()
	c.Redirs, body.Redirs = body.Redirs, nil
	c.Cmds = []api.Cmd{body}
	return c
}
