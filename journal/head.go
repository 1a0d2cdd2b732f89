package journal

import (
	"strings"

	"tarry/api"
)

const (
	heads = 2 // sectors ahead of the halves
	name  = "tarry"
)

// Where things stand in a head; behind them, up to its second half, are zeros.
const (
	halfAt  = len(name)
	sealsAt = halfAt + 1
	usedAt  = sealsAt + 8
	usedEnd = usedAt + 4
	twinAt  = api.Sector / 2
)

// head is a head's bytes, whatever they are.
type head [api.Sector]byte

// told is what a head tells: in which half the records stand, how often they were sealed, and how many bytes they have.
type told struct {
	half  int
	seals int
	used  int
}

// place is the sector in which the head stands that tells it: two that follow one another never have the same.
func (t told) place() int {
	return t.seals % heads
}

// mayBe tells whether a disk's head may tell it.
func (t told) mayBe(d api.Disk) bool {
	return t.half <= 1 && 1 <= t.seals && t.seals <= api.MaxTick && t.used <= room(d)
}

func headOf(t told) head {
	var h head
	copy(h[:], name)
	h[halfAt] = byte(t.half)
	writeNumber(h[sealsAt:usedAt], t.seals)
	writeNumber(h[usedAt:usedEnd], t.used)
	copy(h[twinAt:], h[:twinAt])
	return h
}

func (h head) text() string {
	return string(h[:])
}

// tells is what the bytes tell, if they are a head's.
func (h head) tells() told {
	return told{
		half:  int(h[halfAt]),
		seals: readNumber(h[sealsAt:usedAt]),
		used:  readNumber(h[usedAt:usedEnd]),
	}
}

// newest is what the head of more seals tells of those that a disk has, if it has one.
func newest(d api.Disk) (told, bool) {
	var last told
	for place := range heads {
		if t, ok := headAt(d, place); ok && t.seals > last.seals {
			last = t
		}
	}
	// No head tells of no seals.
	return last, last.seals > 0
}

// headAt is what the head tells that a disk has at a place, if that is one.
func headAt(d api.Disk, place int) (told, bool) {
	var h head
	copy(h[:], d.Sectors[place])
	t := h.tells()
	// Held against the head that tells the same, no byte of it is left unasked.
	if !t.mayBe(d) || t.place() != place || h != headOf(t) {
		return told{}, false
	}
	return t, true
}

// writeNumber writes a number's bytes, the lowest first.
func writeNumber(bytes []byte, n int) {
	for i := range bytes {
		bytes[i] = byte(n >> (8 * i))
	}
}

// readNumber is the number of bytes, the lowest first; below 0, if the highest bit of eight is set.
func readNumber(bytes []byte) int {
	n := 0
	for i, b := range bytes {
		n |= int(b) << (8 * i)
	}
	return n
}

// halfSectors are how many each half of a disk has.
func halfSectors(d api.Disk) int {
	return (len(d.Sectors) - heads) / 2
}

// room is how many bytes each half of a disk has.
func room(d api.Disk) int {
	return api.Sector * halfSectors(d)
}

// begin is the sector with which a half begins.
func begin(d api.Disk, half int) int {
	return heads + half*halfSectors(d)
}

// halfOf are a half's bytes, of a disk that has no writes.
func halfOf(d api.Disk, half int) string {
	at := begin(d, half)
	return strings.Join(d.Sectors[at:at+halfSectors(d)], "")
}
