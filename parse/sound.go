package parse

import (
	"damask/api"
	"damask/arith"
	"damask/lex"
)

// Check tells whether a tree is one that a text may have.
func Check(t api.Tree) api.Errno {
	// The names come last: only behind the others it is known that they are few.
	if len(t.Names) != len(t.Binds) || !ends(t) || !inOrder(t) || !mayBeBound(t.Names) {
		return api.ErrForm
	}
	return api.OK
}

// ends tells whether there are nodes, not too many, and the last one is the root.
func ends(t api.Tree) bool {
	return within(len(t.Nodes), 1, api.MaxText) && t.Root == len(t.Nodes)-1
}

// inOrder tells whether the nodes are those of an expression for each bind and of one more, each with its parts just ahead of it.
func inOrder(t api.Tree) bool {
	var open []int // nodes that are no parts yet, all of one expression
	bound := 0     // how many expressions have ended
	for i, n := range t.Nodes {
		count := parts(n.Op)
		if !within(count, 0, len(open)) || !fields(n, bound) {
			return false
		}
		first := len(open) - count
		if taken(open[first:]) != [3]int{n.A, n.B, n.C} {
			return false
		}
		open = append(open[:first], i)
		if bound < len(t.Binds) && t.Binds[bound] == i {
			if len(open) != 1 {
				return false
			}
			open, bound = nil, bound+1
		}
	}
	return bound == len(t.Binds) && len(open) == 1
}

// parts answers how many parts an operator of a tree has; -1: it is none.
func parts(op int) int {
	switch {
	case op == api.OpUse:
		return 0
	case op > api.OpSel:
		return -1
	}
	return arith.Arity(op)
}

// taken answers at most three parts as a node tells them.
func taken(list []int) [3]int {
	var all [3]int
	copy(all[:], list)
	return all
}

// fields tells whether K and At may be, where so many names are bound ahead.
func fields(n api.Node, bound int) bool {
	if n.Op == api.OpPlace {
		return n.K == 0 && mayBe(n.At)
	}
	return n.At == api.Place{} && within(n.K, 0, most(n.Op, bound))
}

// most answers the greatest K of an operator; below 0, if there is none.
func most(op, bound int) int {
	switch op {
	case api.OpNum:
		return api.MaxNumber
	case api.OpIn:
		return api.InMid
	case api.OpUse:
		return bound - 1
	}
	return 0
}

// mayBe tells whether a text may write a place.
func mayBe(p api.Place) bool {
	if p.Coords != 2 && (p.Coords != 1 || p.Y != 0) {
		return false
	}
	return within(p.Back, 0, api.MaxNumber) && offset(p.X) && offset(p.Y)
}

// offset tells whether a text may write an offset.
func offset(x int) bool { return within(x, -api.MaxNumber, api.MaxNumber) }

// mayBeBound tells whether names are words, none reserved and none twice.
func mayBeBound(names []string) bool {
	seen := make(map[string]struct{}, len(names))
	for _, name := range names {
		if !lex.Word(name) || Reserved(name) {
			return false
		}
		if _, twice := seen[name]; twice {
			return false
		}
		seen[name] = struct{}{}
	}
	return true
}

// within tells whether x is from low to high.
func within(x, low, high int) bool { return low <= x && x <= high }
