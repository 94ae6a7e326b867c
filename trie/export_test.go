package trie

import (
	"signet/api"
	"signet/sha"
)

// PutAt puts a pair as if its key's path were this one. Nobody knows two keys with one path: so the tests of such keys say themselves what paths are.
func PutAt(t *Trie, way sha.Digest, p api.Pair) { t.root = t.root.with(path(way), p, 0) }

// DelAt takes a key away that was put so.
func DelAt(t *Trie, way sha.Digest, key string) { t.root = t.root.without(path(way), key, 0) }
