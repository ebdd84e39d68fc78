package print

import "conch/api"

// command writes a command.
func (g *page) command(c api.Cmd) {
	// Each command has a byte of its own in what it is parsed of, so more of them than a script has bytes are no parsed ones:
	// a Seq of one Seq of one Seq, which writes nothing, comes to an end by that.
	if g.count == api.MaxText {
		g.refuse()
	}
	if g.refused {
		return
	}
	g.count++
	switch c.Kind {
	case api.Simple:
		g.simple(c)
	case api.Pipe:
		g.pipe(c)
	case api.And:
		g.commands(" && ", c.Cmds)
	case api.Or:
		g.commands(" || ", c.Cmds)
	case api.Seq:
		g.commands("; ", c.Cmds)
	default:
		g.compound(c)
		g.redirections(c.Redirs)
	}
}

// compound writes a command of a kind that has its Redirs behind it, but not these.
func (g *page) compound(c api.Cmd) {
	switch c.Kind {
	case api.Group:
		g.enclosed("{ ", c.Cmds, "; }")
	case api.Subshell:
		g.enclosed("(", c.Cmds, ")")
	case api.If:
		g.put("if ")
		g.branch(c.Cmds)
	case api.While:
		g.loop("while ", c.Cmds)
	case api.Until:
		g.loop("until ", c.Cmds)
	case api.For:
		g.each(c)
	case api.Case:
		g.choice(c)
	case api.Func:
		g.enclosed(c.Name+"() ", c.Cmds, "")
	default:
		g.refuse()
	}
}

// simple writes a Simple: a blank stands between each two things of it, also of unlike ones.
func (g *page) simple(c api.Cmd) {
	blank := g.parts(" ")
	series(func(l api.Let) {
		blank()
		g.put(l.Name, "=")
		g.word(l.Word)
	}, c.Lets...)
	series(func(r api.Redir) {
		blank()
		g.redirection(r)
	}, c.Redirs...)
	series(func(w api.Word) {
		blank()
		g.word(w)
	}, c.Words...)
}

// pipe writes a Pipe.
func (g *page) pipe(c api.Cmd) {
	if c.Not {
		g.put("! ")
	}
	g.commands(" | ", c.Cmds)
}

// enclosed writes commands, with a text on each side.
func (g *page) enclosed(ahead string, l []api.Cmd, behind string) {
	g.put(ahead)
	g.commands("", l)
	g.put(behind)
}

// branch writes what stands behind an if, or an elif, up to the fi.
func (g *page) branch(l []api.Cmd) {
	if len(l) < 2 || len(l) > 3 {
		g.refuse()
	}
	if g.refused {
		return
	}
	g.commands("; then ", l[:2])
	switch {
	case len(l) == 2:
		g.put("; fi")
	case l[2].Kind == api.If && len(l[2].Redirs) == 0:
		g.put("; elif ")
		g.branch(l[2].Cmds)
	default:
		g.put("; else ")
		g.command(l[2])
		g.put("; fi")
	}
}

// loop writes a While or an Until.
func (g *page) loop(ahead string, l []api.Cmd) {
	if len(l) != 2 {
		g.refuse()
		return
	}
	g.put(ahead)
	g.commands("; do ", l)
	g.put("; done")
}

// each writes a For.
func (g *page) each(c api.Cmd) {
	g.put("for ", c.Name)
	if !c.Every {
		g.put(" in")
		series(func(w api.Word) {
			g.put(" ")
			g.word(w)
		}, c.Words...)
	}
	g.enclosed("; do ", c.Cmds, "; done")
}

// choice writes a Case.
func (g *page) choice(c api.Cmd) {
	g.put("case ")
	g.words(" ", c.Words)
	g.put(" in ")
	series(func(i api.Item) {
		g.put("(")
		g.words("|", i.Words)
		g.enclosed(") ", i.Body, ";; ")
	}, c.Items...)
	g.put("esac")
}
