package gba

import (
	"slices"

	"sortilege/api"
)

// builder of an automaton.
type builder struct {
	parts  []part
	untils []int // those of the parts that are U
	limit  int
	isFull bool             // would more nodes than the limit come up?
	nodes  []Node           // as they came up
	next   [][]int          // of each one the parts of the next node
	sets   [][]int          // of each U its nodes
	ends   map[string][]int // of a node that is coming up, by its marks, those that it comes to be
}

// newBuilder: of an automaton without nodes.
func newBuilder(all []part, limit int) *builder {
	b := &builder{parts: all, limit: limit, ends: map[string][]int{}}
	for i, p := range all {
		if p.op == "U" {
			b.untils = append(b.untils, i)
		}
	}
	b.sets = make([][]int, len(b.untils))
	return b
}

// build the automaton of a part over so many names.
func (b *builder) build(first, props int) (GBA, error) {
	begin := b.nodesOf([]int{first})
	for i := 0; i < len(b.nodes) && !b.isFull; i++ {
		b.nodes[i].Next = b.nodesOf(b.next[i])
	}
	if b.isFull {
		return GBA{}, api.ErrAuto
	}
	return GBA{Props: props, Nodes: b.nodes, Init: begin, Sets: b.sets}, nil
}

// nodesOf: the nodes that come up of some parts, rising.
func (b *builder) nodesOf(l []int) []int {
	n := newNode(b.parts, l)
	if n.letters == 0 {
		return nil
	}
	// A copy: of other parts the same list may be told.
	return slices.Clone(b.endsOf(n))
}

// endsOf a node that is coming up: the nodes that it comes to be, rising.
func (b *builder) endsOf(n *node) []int {
	at, ways := n.goOn()
	// If nothing is wanted any more, the marks are the OLD ones and those of the next
	// node. Else it may have come as far another way, too: so nothing is gone through twice.
	marks := string(n.marks)
	ends, ok := b.ends[marks]
	if ok || b.isFull {
		return ends
	}
	if len(ways) == 0 {
		ends = b.add(n)
	} else {
		first := n.copy()
		first.look(at, ways[0])
		n.look(at, ways[1])
		ends = union(b.endsOf(first), b.endsOf(n))
	}
	b.ends[marks] = ends
	return ends
}

// add a node that has come up, unless there are as many as may be; its number alone.
func (b *builder) add(n *node) []int {
	number := len(b.nodes)
	if number == b.limit {
		b.isFull = true
		return nil
	}
	need, forbid := n.literals()
	b.nodes = append(b.nodes, Node{Need: need, Forbid: forbid})
	b.next = append(b.next, n.next())
	for k, i := range b.untils {
		if !n.has(i) || n.has(b.parts[i].right) {
			b.sets[k] = append(b.sets[k], number)
		}
	}
	return []int{number}
}

// union of two rising lists, rising.
func union(l, k []int) []int {
	all := slices.Concat(l, k)
	slices.Sort(all)
	return slices.Compact(all)
}
