package check

import (
	"dowel/api"
	"dowel/name"
)

// mostSize is the greatest size of a type.
const mostSize = 256

// partsMay tells whether all parts but the chains are as they are to be.
func partsMay(o api.Object) bool {
	return namesMay(o) && amountsMay(o) && typesMay(o) && cmdsMay(o) && exportsMay(o) && cellsMay(o) && isUpTo(o.Body, len(o.Code))
}

func namesMay(o api.Object) bool {
	if len(o.Imports) > api.MaxImports || len(o.Cmds) > api.MaxCmds {
		return false
	}
	// An import has another name than the object, a command may have any of these.
	modules := []string{o.Name}
	for _, i := range o.Imports {
		modules = append(modules, i.Name)
	}
	var cmds []string
	for _, c := range o.Cmds {
		cmds = append(cmds, c.Name)
	}
	return areNames(modules) && areNames(cmds)
}

// areNames tells whether all are names, and no two of them are the same.
func areNames(list []string) bool {
	for i, s := range list {
		if !name.May(s) {
			return false
		}
		for _, other := range list[:i] {
			if other == s {
				return false
			}
		}
	}
	return true
}

func amountsMay(o api.Object) bool {
	return isUpTo(o.Data, api.MaxData) && len(o.Text) <= api.MaxText && len(o.Code) >= 1 && len(o.Code) <= api.MaxCode
}

func typesMay(o api.Object) bool {
	if len(o.Types) > api.MaxTypes {
		return false
	}
	for number, t := range o.Types {
		if !isUpTo(t.Size, mostSize) || t.Size%4 != 0 || !baseMay(t, number, len(o.Imports)) {
			return false
		}
	}
	return true
}

// baseMay tells whether a type of that number may extend what it does.
func baseMay(t api.Type, number, imports int) bool {
	if t.Mod == itself {
		return t.Base == -1 || isBelow(t.Base, number)
	}
	return t.Mod >= 1 && t.Mod <= imports && isBelow(t.Base, api.MaxExports)
}

func cmdsMay(o api.Object) bool {
	for _, c := range o.Cmds {
		if !isBelow(c.At, len(o.Code)) {
			return false
		}
	}
	return true
}

func exportsMay(o api.Object) bool {
	if len(o.Exports) > api.MaxExports {
		return false
	}
	for _, e := range o.Exports {
		if !isBelow(e.At, placesOf(o, e.Kind)) {
			return false
		}
	}
	return true
}

// placesOf is how many places there are for exports of a kind: none, if there is no such kind.
func placesOf(o api.Object, kind int) int {
	switch kind {
	case api.Proc:
		return len(o.Code)
	case api.Var:
		return o.Data
	case api.Rec:
		return len(o.Types)
	}
	return 0
}

func cellsMay(o api.Object) bool {
	return cellListMay(o.Ptrs, o.Data) && cellListMay(o.Procs, o.Data) && areApart(o.Ptrs, o.Procs)
}

// cellListMay tells whether a list of declared cells rises, and has data words alone.
func cellListMay(list []int, data int) bool {
	if len(list) > api.MaxCells {
		return false
	}
	for i, word := range list {
		if !isBelow(word, data) || i > 0 && word <= list[i-1] {
			return false
		}
	}
	return true
}

func areApart(a, b []int) bool {
	for _, word := range a {
		for _, other := range b {
			if word == other {
				return false
			}
		}
	}
	return true
}

func isUpTo(n, most int) bool { return n >= 0 && n <= most }

func isBelow(n, end int) bool { return n >= 0 && n < end }
