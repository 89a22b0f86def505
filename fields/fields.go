// Package fields is layer 1: several numbers in one word.
package fields

import "roundelay/api"

const (
	blockBits = 16
	turnBits  = 20
	bodyBits  = 32
	mostBody  = 1<<bodyBits - 1
)

// Handle of a birth and a block; false: they may not be.
func Handle(birth, block uint64) (uint64, bool) {
	if birth < 1 || birth > api.MostBirth || block < 1 || block > api.MostBlock {
		return 0, false
	}
	return birth<<blockBits | block, true
}

// Right handle?
func Right(h uint64) bool {
	_, ok := Handle(Birth(h), Block(h))
	return ok
}

// Birth of a handle.
func Birth(h uint64) uint64 { return h >> blockBits }

// Block of a handle.
func Block(h uint64) uint64 { return h & api.MostBlock }

// Root of a handle, or of none, and a turn; false: they may not be.
func Root(h, turn uint64) (uint64, bool) {
	if h != 0 && !Right(h) || turn > api.MostTurn {
		return 0, false
	}
	return h<<turnBits | turn, true
}

// Top of a root: its handle.
func Top(root uint64) uint64 { return root >> turnBits }

// Turn of a root.
func Turn(root uint64) uint64 { return root & api.MostTurn }

// Next turn of a root; false: there is none.
func Next(root uint64) (uint64, bool) {
	return Root(Top(root), Turn(root)+1)
}

// Note of a number and a body; false: they may not be.
func Note(seq, body uint64) (uint64, bool) {
	if seq > api.MostSeq || body > mostBody {
		return 0, false
	}
	return seq<<bodyBits | body, true
}

// Seq of a note.
func Seq(note uint64) uint64 { return note >> bodyBits }

// Body of a note.
func Body(note uint64) uint64 { return note & mostBody }
