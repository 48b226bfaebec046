package spell

import "filigree/api"

func file(f api.File) tokens {
	return each(f.Modules, module)
}

func module(m api.Module) tokens {
	return chain(word("module"), name(m.Name), parameters(m.Params), round(list(m.Ports, port)), items(m.Items))
}

// parameters is nothing, if there are none: brackets with nothing between can't be read.
func parameters(l []api.Bind) tokens {
	if len(l) == 0 {
		return chain()
	}
	return chain(sign("#"), round(list(l, bind)))
}

func port(p api.Port) tokens {
	if p.Out {
		return chain(word("out"), told(p.Name, p.W))
	}
	return chain(word("in"), told(p.Name, p.W))
}

func bind(b api.Bind) tokens {
	return chain(name(b.Name), sign("="), expression(b.X))
}

// told is a name, and what is told of it: of a signal its width, of a check what is to be so.
func told(s string, x api.X) tokens {
	return chain(name(s), sign(":"), expression(x))
}

func item(i api.Item) tokens {
	switch i.Op {
	case api.ConstI:
		return chain(word("const"), bind(api.Bind{Name: i.Name, X: i.X[0]}), sign(";"))
	case api.WireI:
		return chain(word("wire"), told(i.Name, i.X[0]), sign(";"))
	case api.RegI:
		return chain(word("reg"), told(i.Name, i.X[0]), sign("="), expression(i.X[1]), sign(";"))
	case api.AssignI:
		return chain(word("assign"), inComb.assignment(i.X))
	case api.CombI:
		return chain(word("comb"), inComb.block(i.S))
	case api.TickI:
		return chain(word("on"), word("tick"), onTick.block(i.S))
	case api.InstI:
		return chain(word("inst"), name(i.Name), sign(":"), name(i.Of), parameters(i.Params), round(list(i.Binds, bind)), sign(";"))
	case api.IfI:
		return chain(word("if"), round(expression(i.X[0])), items(i.L), instead(i.Else))
	case api.ForI:
		return chain(word("for"), name(i.Name), round(steps(i.Of, i.X)), items(i.L))
	}
	return chain(word("check"), told(i.Name, i.X[0]), sign(";"))
}

func items(l []api.Item) tokens {
	return curly(each(l, item))
}

// instead is what stands behind the first items of an if: no items are as good as none told.
func instead(l []api.Item) tokens {
	if len(l) == 0 {
		return chain()
	}
	return chain(word("else"), items(l))
}
