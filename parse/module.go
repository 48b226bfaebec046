package parse

import "filigree/api"

func (r *reader) file() api.File {
	var f api.File
	for r.at < len(r.tokens) {
		f.Modules = append(f.Modules, r.module())
	}
	return f
}

func (r *reader) module() api.Module {
	r.want("module")
	m := api.Module{Name: r.name()}
	m.Params = r.parameters()
	m.Ports = listed(r, (*reader).port)
	m.Items = braces(r, (*reader).item)
	return m
}

// parameters is the ones behind a #, at least one; without a # there are none.
func (r *reader) parameters() []api.Bind {
	var l []api.Bind
	if r.took("#") {
		r.within("(", ")", func() { l = list(r, (*reader).bind) })
	}
	return l
}

func (r *reader) bind() api.Bind {
	b := api.Bind{Name: r.name()}
	r.want("=")
	b.X = r.expression()
	return b
}

func (r *reader) port() api.Port {
	p := api.Port{Out: r.took("out")}
	if !p.Out {
		r.want("in")
	}
	p.Name = r.name()
	r.want(":")
	p.W = r.expression()
	return p
}

func (r *reader) item() api.Item {
	switch {
	case r.took("const"):
		return r.told(api.ConstI, "=")
	case r.took("wire"):
		return r.told(api.WireI, ":")
	case r.took("reg"):
		return r.told(api.RegI, ":", "=")
	case r.took("check"):
		return r.told(api.CheckI, ":")
	case r.took("assign"):
		return api.Item{Op: api.AssignI, X: r.assignment("=")}
	case r.took("comb"):
		return api.Item{Op: api.CombI, S: r.process("=")}
	case r.took("on"):
		r.want("tick")
		return api.Item{Op: api.TickI, S: r.process("<=")}
	case r.took("inst"):
		return r.instance()
	case r.took("if"):
		return r.choice()
	case r.took("for"):
		return r.loop()
	}
	panic(r.wrong())
}

// told is an item that is a name, and what is told of it behind these signs.
func (r *reader) told(op int, signs ...string) api.Item {
	i := api.Item{Op: op, Name: r.name()}
	i.X = r.behind(signs...)
	r.want(";")
	return i
}

func (r *reader) instance() api.Item {
	i := api.Item{Op: api.InstI, Name: r.name()}
	r.want(":")
	i.Of = r.name()
	i.Params = r.parameters()
	i.Binds = listed(r, (*reader).bind)
	r.want(";")
	return i
}

func (r *reader) choice() api.Item {
	i := api.Item{Op: api.IfI, X: []api.X{r.inside("(", ")")}}
	i.L = braces(r, (*reader).item)
	if r.took("else") {
		i.Else = braces(r, (*reader).item)
	}
	return i
}

func (r *reader) loop() api.Item {
	i := api.Item{Op: api.ForI, Name: r.name()}
	i.Of, i.X = r.steps()
	i.L = braces(r, (*reader).item)
	return i
}

// steps is a loop's variable, and from where up to where it goes.
func (r *reader) steps() (variable string, ends []api.X) {
	r.within("(", ")", func() {
		variable = r.name()
		ends = r.behind("=", "..")
	})
	return variable, ends
}
