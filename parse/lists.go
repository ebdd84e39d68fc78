package parse

import "conch/api"

// line reads a line, and its end.
func (p *parser) line() api.Cmd {
	cmds := []api.Cmd{p.andOr()}
	for p.skip(";") && p.more() && !p.sees(newline) {
		cmds = append(cmds, p.andOr())
	}
	p.lineEnd()
	return sequence(cmds)
}

// lineEnd reads a line's end: a Newline, or none, if the text ends there, too, and not its tokens alone.
func (p *parser) lineEnd() {
	if p.more() {
		p.want(newline)
		return
	}
	p.fail(p.broken)
}

// list reads a list within another command.
func (p *parser) list() api.Cmd {
	p.gap()
	cmds := []api.Cmd{p.andOr()}
	for p.end() && p.goesOn() {
		cmds = append(cmds, p.andOr())
	}
	return sequence(cmds)
}

// goesOn tells whether a list goes on behind an end.
func (p *parser) goesOn() bool {
	return p.more() && !p.sees("then", "else", "elif", "fi", "do", "done", "esac", "}", ")", ";;")
}

// sequence is a Seq of two commands and more, and of one that one.
func sequence(cmds []api.Cmd) api.Cmd {
	if len(cmds) == 1 {
		return cmds[0]
	}
	return api.Cmd{Kind: api.Seq, Cmds: cmds}
}

// andOr reads an and-or list.
func (p *parser) andOr() api.Cmd {
	left := p.pipeline()
	for p.sees("&&", "||") {
		kind := api.Or
		if p.take().Text == "&&" {
			kind = api.And
		}
		p.gap()
		left = api.Cmd{Kind: kind, Cmds: []api.Cmd{left, p.pipeline()}}
	}
	return left
}

// pipeline reads a pipeline.
func (p *parser) pipeline() api.Cmd {
	not := p.skip("!")
	cmds := []api.Cmd{p.command()}
	for p.skip("|") {
		p.gap()
		cmds = append(cmds, p.command())
	}
	if len(cmds) == 1 && !not {
		return cmds[0]
	}
	return api.Cmd{Kind: api.Pipe, Not: not, Cmds: cmds}
}
