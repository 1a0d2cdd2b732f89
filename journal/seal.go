package journal

import (
	"strings"

	"tarry/api"
	"tarry/disk"
	"tarry/frame"
)

// part is bytes that are to be sealed: they are laid into a half, from a place on.
type part struct {
	half  int
	from  int
	bytes string
}

// waiting is what Commit seals.
func waiting(j api.Journal) (part, api.Errno) {
	if !Right(j) {
		return part{}, api.ErrArg
	}
	if j.Seals == api.MaxTick {
		return part{}, api.ErrFull
	}
	return part{half: j.Half, from: j.Used, bytes: frames(j.Group)}, api.OK
}

// instead is what Compact seals.
func instead(j api.Journal, data string) (part, api.Errno) {
	if !Right(j) {
		return part{}, api.ErrArg
	}
	if len(data) > longestAll {
		return part{}, api.ErrLong
	}
	bytes, err := frame.Frame(data)
	if err != api.OK {
		return part{}, err
	}
	if len(bytes) > room(j.Disk) || j.Seals == api.MaxTick {
		return part{}, api.ErrFull
	}
	return part{half: 1 - j.Half, from: 0, bytes: bytes}, api.OK
}

// sealing is what Compact seals, or, if there is nothing to stand for all, Commit.
func sealing(j api.Journal, whole string) (part, api.Errno) {
	if whole == "" {
		return waiting(j)
	}
	return instead(j, whole)
}

// seal is the journal behind the second flush: what was sealed is what its disk has then.
func seal(j api.Journal, p part) (api.Journal, api.Errno) {
	d, err := tellOf(j, p)
	if err != api.OK {
		return api.Journal{}, err
	}
	d, err = disk.Flush(d)
	if err != api.OK {
		return api.Journal{}, err
	}
	return Open(d)
}

// layOut is the disk ahead of the first flush: the bytes are laid, and no head tells of them yet.
func layOut(j api.Journal, p part) (api.Disk, api.Errno) {
	d, at, from := j.Disk, begin(j.Disk, p.half)+p.from/api.Sector, p.from%api.Sector
	for rest := p.bytes; rest != ""; at, from = at+1, 0 {
		n := min(len(rest), api.Sector-from)
		had, err := disk.Get(d, at)
		if err != api.OK {
			return api.Disk{}, err
		}
		d, err = disk.Put(d, at, had[:from]+rest[:n]+had[from+n:])
		if err != api.OK {
			return api.Disk{}, err
		}
		rest = rest[n:]
	}
	// The next head is written over zeros: torn, it is none, whatever stood there.
	return disk.Put(d, next(j, p).place(), strings.Repeat("\x00", api.Sector))
}

// tellOf is the disk ahead of the second flush: the bytes are safe, and the head that tells of them is not.
func tellOf(j api.Journal, p part) (api.Disk, api.Errno) {
	d, err := layOut(j, p)
	if err != api.OK {
		return api.Disk{}, err
	}
	d, err = disk.Flush(d)
	if err != api.OK {
		return api.Disk{}, err
	}
	t := next(j, p)
	return disk.Put(d, t.place(), headOf(t).text())
}

// next is what the head tells that seals a part.
func next(j api.Journal, p part) told {
	return told{half: p.half, seals: j.Seals + 1, used: p.from + len(p.bytes)}
}
