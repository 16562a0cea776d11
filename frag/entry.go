package frag

import (
	"cmp"
	"slices"
	"strings"

	"redan/words"
)

// entry is an unfinished message.
type entry struct {
	peer   string
	msg    int
	birth  uint64
	pieces [][]byte // one for each part; empty, where it hasn't come
	size   int      // bytes of all pieces
}

// begin is an entry to which nothing came.
func begin(peer string, msg, parts int, now uint64) *entry {
	return &entry{peer: strings.Clone(peer), msg: msg, birth: now, pieces: make([][]byte, parts)}
}

// has tells whether a part came. No piece is empty.
func (x *entry) has(part int) bool { return len(x.pieces[part]) > 0 }

// fits tells whether a piece is one of as many as the others, and the same if it came before.
func (x *entry) fits(part, parts int, body []byte) bool {
	if len(x.pieces) != parts {
		return false
	}
	return !x.has(part) || words.Equal(x.pieces[part], body)
}

// put puts a piece in that hasn't come.
func (x *entry) put(part int, body []byte) {
	x.pieces[part] = words.Join(body)
	x.size += len(body)
}

// whole tells whether all parts came.
func (x *entry) whole() bool {
	for part := range x.pieces {
		if !x.has(part) {
			return false
		}
	}
	return true
}

// without is a new list, of those that don't go.
func without(list []*entry, goes func(*entry) bool) []*entry {
	return slices.DeleteFunc(slices.Clone(list), goes)
}

// find is the entry of a peer's message; nil, if there is none.
func find(list []*entry, peer string, msg int) *entry {
	for _, x := range list {
		if x.peer == peer && x.msg == msg {
			return x
		}
	}
	return nil
}

// oldestOther is the one of a peer's entries that was born first, but for that of a message; nil, if there is none.
// Of those that were born at once it is the one ahead of the others in the list.
func oldestOther(list []*entry, peer string, msg int) *entry {
	others := without(list, func(x *entry) bool { return x.peer != peer || x.msg == msg })
	if len(others) == 0 {
		return nil
	}
	return slices.MinFunc(others, func(x, y *entry) int { return cmp.Compare(x.birth, y.birth) })
}

// held is how many bytes a list has of a peer.
func held(list []*entry, peer string) int {
	size := 0
	for _, x := range list {
		if x.peer == peer {
			size += x.size
		}
	}
	return size
}

// total is how many bytes a list has.
func total(list []*entry) int {
	size := 0
	for _, x := range list {
		size += x.size
	}
	return size
}
