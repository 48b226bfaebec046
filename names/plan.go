package names

import (
	"slices"

	"filigree/api"
	"filigree/ast"
)

// plan is which modules each module of a file uses, and all modules in their order.
type plan struct {
	uses  map[string][]string
	order []string
}

// planned is the plan of a file, if all its names are right.
func planned(f api.File) (plan, api.Errno) {
	if e := ast.Check(f); e != api.OK {
		return plan{}, e
	}
	if twice(f) {
		return plan{}, api.ErrTwice
	}
	p := plan{uses: map[string][]string{}}
	for _, m := range f.Modules {
		p.uses[m.Name] = Uses(m)
	}
	if !p.hasAll() {
		return plan{}, api.ErrNoModule
	}
	if !p.putInOrder(f.Modules) {
		return plan{}, api.ErrRing
	}
	return p, api.OK
}

// hasAll tells whether all modules that are used are there.
func (p *plan) hasAll() bool {
	for _, uses := range p.uses {
		if slices.ContainsFunc(uses, p.misses) {
			return false
		}
	}
	return true
}

func (p *plan) misses(name string) bool {
	_, there := p.uses[name]
	return !there
}

// putInOrder tells whether there is an order: if no module can come next, while some are left, these are made of each other.
func (p *plan) putInOrder(modules []api.Module) bool {
	placed := map[string]bool{}
	for range modules {
		next := slices.IndexFunc(modules, func(m api.Module) bool {
			return !placed[m.Name] && among(placed, p.uses[m.Name])
		})
		if next < 0 {
			return false
		}
		name := modules[next].Name
		placed[name] = true
		p.order = append(p.order, name)
	}
	return true
}

func among(set map[string]bool, names []string) bool {
	for _, name := range names {
		if !set[name] {
			return false
		}
	}
	return true
}

// below goes from the last module back: whoever uses a module stands behind it.
func (p *plan) below(top string) []string {
	wanted := map[string]bool{top: true}
	for _, name := range slices.Backward(p.order) {
		if wanted[name] {
			for _, use := range p.uses[name] {
				wanted[use] = true
			}
		}
	}
	return slices.DeleteFunc(p.order, func(name string) bool { return !wanted[name] })
}
