package trie

import (
	"slices"

	"signet/api"
	"signet/sha"
)

const (
	fan     = 16 // numbers that a path may go on with
	deepest = 64 // numbers of a path
	half    = 4  // bits of such a number
)

// What a digest is of stands ahead of it: so that no pair is taken for digests, or for pairs that share their whole path.
const (
	signOne  = 0
	signFork = 1
	signEnd  = 2
)

// path is a key's.
type path sha.Digest

// pathOf answers the path of a key.
func pathOf(key string) path { return path(sha.Sum([]byte(key))) }

// at answers the path's number behind so many others.
func (p path) at(depth int) int {
	b := p[depth/2]
	if depth%2 == 0 {
		return int(b >> half)
	}
	return int(b % fan)
}

// node is all pairs under a prefix; nil, where there are none. It never changes, so that tries share it. A pair that is alone ends its way at once: so one and the same node is under all prefixes that are its alone.
type node struct {
	digest sha.Digest
	count  int
	pairs  []api.Pair // where the way ends: one, or all of one whole path, rising by keys
	path   path       // theirs
	below  parts      // where it goes on
}

// parts are the nodes of the prefixes that are longer by one number.
type parts [fan]*node

// sum answers the digest of the pairs.
func (n *node) sum() sha.Digest {
	if n == nil {
		return sha.Digest{}
	}
	return n.digest
}

// total answers how many pairs there are.
func (n *node) total() int {
	if n == nil {
		return 0
	}
	return n.count
}

// ends tells whether nothing is below.
func (n *node) ends() bool { return n == nil || len(n.pairs) > 0 }

// split answers what is below, also where a way ends that could go on.
func (n *node) split(depth int) parts {
	var out parts
	switch {
	case n == nil:
	case n.ends():
		out[n.path.at(depth)] = n
	default:
		out = n.below
	}
	return out
}

// each does something with all pairs.
func (n *node) each(do func(api.Pair)) {
	if n == nil {
		return
	}
	for _, p := range n.pairs {
		do(p)
	}
	for _, m := range n.below {
		m.each(do)
	}
}

// has tells whether the pair is among those with which the way ends.
func (n *node) has(p api.Pair) bool { return n != nil && slices.Contains(n.pairs, p) }

// besides answers the pairs with which the way ends, but for that of the key.
func (n *node) besides(key string) []api.Pair {
	var out []api.Pair
	if n != nil {
		for _, p := range n.pairs {
			if p.Name != key {
				out = append(out, p)
			}
		}
	}
	return out
}

// find answers the pair of a key, and whether it is there.
func (n *node) find(key string) (out api.Pair, there bool) {
	if !isKey(key) { // it may be so long that its path takes long
		return out, false
	}
	way := pathOf(key)
	for depth := 0; !n.ends(); depth++ {
		n = n.below[way.at(depth)]
	}
	n.each(func(p api.Pair) {
		if p.Name == key {
			out, there = p, true
		}
	})
	return out, there
}

// with answers a node that has the pair besides, whose key's path is way.
func (n *node) with(way path, p api.Pair, depth int) *node {
	rest := n.besides(p.Name)
	if n.ends() && (len(rest) == 0 || depth == deepest) {
		return ending(way, append(rest, p)...)
	}
	below, at := n.split(depth), way.at(depth)
	below[at] = below[at].with(way, p, depth+1)
	return joined(below)
}

// without answers a node that has all pairs but that of the key, which is there, and whose path is way.
func (n *node) without(way path, key string, depth int) *node {
	if n.ends() {
		return ending(way, n.besides(key)...)
	}
	below, at := n.below, way.at(depth)
	below[at] = below[at].without(way, key, depth+1)
	return joined(below)
}

// ending answers the node with which a way ends.
func ending(way path, l ...api.Pair) *node {
	if len(l) == 0 {
		return nil
	}
	slices.SortFunc(l, byKey)
	return &node{digest: sumOf(l), count: len(l), pairs: l, path: way}
}

// joined answers the node that has these below.
func joined(below parts) *node {
	count := 0
	var last *node
	for _, n := range below {
		if n != nil {
			count += n.count
			last = n
		}
	}
	if count <= 1 {
		return last
	}
	return &node{digest: below.sum(), count: count, below: below}
}

// sum answers the digest of all pairs, which are more than one.
func (l parts) sum() sha.Digest {
	h := sha.New()
	h.Write([]byte{signFork})
	for _, n := range l {
		d := n.sum()
		h.Write(d[:])
	}
	return h.Sum()
}

// sumOf answers the digest of the pairs with which a way ends.
func sumOf(l []api.Pair) sha.Digest {
	if len(l) == 1 {
		return sha.All([]byte{signOne}, measured(l[0].Name), []byte(l[0].Value))
	}
	said := [][]byte{{signEnd}}
	for _, p := range l {
		said = append(said, measured(p.Name), measured(p.Value))
	}
	return sha.All(said...)
}

// measured answers the bytes of s, with their number in four bytes ahead.
func measured(s string) []byte {
	n := len(s)
	return append([]byte{byte(n >> 24), byte(n >> 16), byte(n >> 8), byte(n)}, s...)
}

// differ tells the pairs that only one of two nodes has: but none where both have one digest.
func differ(a, b *node, depth int, tell func(api.Pair)) {
	switch {
	case a.sum() == b.sum():
	case a.ends() && b.ends():
		a.each(func(p api.Pair) {
			if !b.has(p) {
				tell(p)
			}
		})
		b.each(func(p api.Pair) {
			if !a.has(p) {
				tell(p)
			}
		})
	default:
		x, y := a.split(depth), b.split(depth)
		for k := range fan {
			differ(x[k], y[k], depth+1, tell)
		}
	}
}
