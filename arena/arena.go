// Package arena has nodes of decision diagrams, each once: layer 1.
package arena

import (
	"maquette/api"
)

// Node asks a variable: where it goes, if that is 0, and if it is 1. The nodes 0 and 1 are no and yes: their variable is Last.
type Node struct{ Var, Low, High int }

// Last is more than any variable.
const Last = 1 << 10

// The numbers of the two nodes that each arena has.
const (
	no  = 0
	yes = 1
)

// Arena is nodes, by their numbers. A node goes to nodes of smaller numbers alone, so that each walk along them ends.
type Arena struct {
	most    int
	nodes   []Node
	numbers map[Node]int // of all nodes but no and yes, which nobody makes
}

// Of is an arena of two nodes, for so many at most (from 2 to MaxNodes).
func Of(most int) *Arena {
	return &Arena{
		most:    min(max(most, 2), api.MaxNodes),
		nodes:   []Node{{Last, no, no}, {Last, yes, yes}},
		numbers: map[Node]int{},
	}
}

// Get is a node; that of no, if there is none.
func (a *Arena) Get(k int) Node {
	if !a.has(k) {
		return Node{Last, no, no}
	}
	return a.nodes[k]
}

// Len is how many nodes there are.
func (a *Arena) Len() int { return len(a.nodes) }

// Mk is the node that asks a variable: the same number for the same node; that where it goes, if that is one. ErrArgument, if there are no such nodes, or they ask that variable, or one ahead of it; ErrFull.
func (a *Arena) Mk(v, low, high int) (int, error) {
	if v < 0 || v >= Last || !a.behind(low, v) || !a.behind(high, v) {
		return 0, api.ErrArgument
	}
	if low == high {
		return low, nil
	}
	n := Node{v, low, high}
	if k, ok := a.numbers[n]; ok {
		return k, nil
	}
	if len(a.nodes) >= a.most {
		return 0, api.ErrFull
	}
	k := len(a.nodes)
	a.nodes = append(a.nodes, n)
	a.numbers[n] = k
	return k, nil
}

// Variable is the diagram of a variable.
func (a *Arena) Variable(v int) (int, error) { return a.Mk(v, no, yes) }

// Eval is whether a diagram says yes, by which variables are 1: none, if there is no function to tell it. False, if the function panics.
func (a *Arena) Eval(k int, is func(v int) bool) (says bool) {
	// No listed call panics, whatever it is given (W1): not with a function that does, either.
	defer func() { _ = recover() }()
	for n := a.Get(k); n.Var < Last; n = a.Get(k) {
		if is != nil && is(n.Var) {
			k = n.High
		} else {
			k = n.Low
		}
	}
	return k == yes
}

// has is whether there is a node k.
func (a *Arena) has(k int) bool { return k >= 0 && k < len(a.nodes) }

// behind is whether there is a node k that asks nothing up to the variable v: one that asks v may go to it.
func (a *Arena) behind(k, v int) bool { return a.has(k) && a.nodes[k].Var > v }
