package disk_test

import (
	"math"
	"slices"
	"testing"

	"tarry/api"
	"tarry/disk"
)

func crash(t *testing.T, d api.Disk, kept uint64, torn int) api.Disk {
	t.Helper()
	d, e := disk.Crash(d, kept, torn)
	return must(t, d, e)
}

// crashed are a disk's sectors behind a crash, worked out as pieces, each of which lies over those ahead of it.
func crashed(d api.Disk, kept uint64, torn int) []string {
	pieces := map[int][]string{}
	loses := -1
	for i, w := range d.Writes {
		if kept&(1<<i) == 0 {
			loses = i
		} else {
			pieces[w.At] = append(pieces[w.At], w.Data)
		}
	}
	if loses >= 0 && torn >= 1 && torn <= 63 {
		w := d.Writes[loses]
		pieces[w.At] = append(pieces[w.At], w.Data[:torn])
	}
	l := slices.Clone(d.Sectors)
	for at, over := range pieces {
		for _, piece := range over {
			l[at] = piece + l[at][len(piece):]
		}
	}
	return l
}

// P3.2: the chapter's example, and other crashes, written out.
func TestCrashWrittenOut(t *testing.T) {
	a, b, c, z := full("a"), full("b"), full("c"), full("z")
	one := func(writes ...api.Write) api.Disk { return api.Disk{Sectors: []string{z, z}, Writes: writes} }
	for _, x := range []struct {
		name  string
		d     api.Disk
		kept  uint64
		torn  int
		first string
		other string
	}{
		{"none kept, torn by 3", one(write(0, a)), 0, 3, "aaa" + z[3:], z},
		{"none kept, torn by 1", one(write(0, a)), 0, 1, "a" + z[1:], z},
		{"none kept, torn by 63", one(write(0, a)), 0, 63, a[1:] + "z", z},
		{"none kept, torn by 0", one(write(0, a)), 0, 0, z, z},
		{"none kept, torn by 64", one(write(0, a)), 0, 64, z, z},
		{"none kept, torn by 65", one(write(0, a)), 0, 65, z, z},
		{"none kept, torn by -1", one(write(0, a)), 0, -1, z, z},
		{"none kept, torn by the most", one(write(0, a)), 0, math.MaxInt, z, z},
		{"none kept, torn by the least", one(write(0, a)), 0, math.MinInt, z, z},
		{"kept, torn by 3", one(write(0, a)), 1, 3, a, z},
		{"kept, by a bit of no write", one(write(0, a)), 1 << 1, 3, "aaa" + z[3:], z},
		{"both lost: the last one is torn", one(write(0, a), write(1, b)), 0, 3, z, "bbb" + z[3:]},
		{"both lost at one place: the last one alone", one(write(0, a), write(0, b)), 0, 3, "bbb" + z[3:], z},
		{"the first one kept, the second one torn over it", one(write(0, a), write(0, b)), 1, 3, "bbb" + a[3:], z},
		{"the second one kept, the first one torn over it", one(write(0, a), write(0, b)), 2, 3, "aaa" + b[3:], z},
		{"the second one kept, the first one torn elsewhere", one(write(0, a), write(1, b)), 2, 3, "aaa" + z[3:], b},
		{"both kept, in order", one(write(0, a), write(0, b)), 3, 3, b, z},
		{"the last of those that are lost, not of all", one(write(0, a), write(1, b), write(0, c)), 4, 3, c, "bbb" + z[3:]},
		{"of three the middle one lost", one(write(0, a), write(0, b), write(0, c)), 5, 3, "bbb" + c[3:], z},
		{"no writes", one(), math.MaxUint64, 3, z, z},
		{"no writes, none kept", one(), 0, 3, z, z},
	} {
		got := crash(t, x.d, x.kept, x.torn)
		if !slices.Equal(got.Sectors, []string{x.first, x.other}) || len(got.Writes) != 0 {
			t.Errorf("%s: %q, %d writes", x.name, got.Sectors, len(got.Writes))
		}
	}
	d, _ := disk.New(1)
	if s := get(t, crash(t, put(t, d, 0, a), 0, 3), 0); s != "aaa"+zeros[3:] {
		t.Errorf("Put 0 a.., Crash of none, torn by 3: %q", s)
	}
}

// P3.2: every choice of what is kept, of up to 6 writes, torn by each number there is.
func TestCrashEveryWay(t *testing.T) {
	for _, places := range [][]int{{}, {0}, {0, 0}, {0, 1}, {1, 0, 1}, {0, 0, 0, 2}, {2, 1, 0, 1, 2}, {1, 1, 0, 2, 1, 0}} {
		var writes []api.Write
		for i, at := range places {
			writes = append(writes, write(at, noise(uint32(i)+100)))
		}
		d := made(3, writes...)
		for kept := range uint64(1) << len(places) {
			for torn := -2; torn <= 66; torn++ {
				got := crash(t, d, kept, torn)
				if !slices.Equal(got.Sectors, crashed(d, kept, torn)) || len(got.Writes) != 0 || !disk.Right(got) {
					t.Fatalf("writes at %v, kept %b, torn by %d: %q", places, kept, torn, got.Sectors)
				}
			}
		}
	}
}

// keptOfMany are some numbers of 64 bits, the edges among them.
func keptOfMany() []uint64 {
	l := []uint64{0, 1, math.MaxUint64, math.MaxInt64, 1 << 63, math.MaxUint64 - 1, 1 << 32, 1<<32 - 1}
	x := uint64(88172645463325252)
	for range 60 {
		x ^= x << 13
		x ^= x >> 7
		x ^= x << 17
		l = append(l, x)
	}
	for i := range 64 {
		l = append(l, 1<<i, ^(1 << i))
	}
	return l
}

// P3.2: as many writes as there may be, up to the 64th one's bit; bits of no write count for nothing.
func TestCrashOfManyWrites(t *testing.T) {
	for _, d := range []api.Disk{made(1, many(64, 1)...), made(5, many(64, 5)...), made(512, many(64, 512)...), made(5, many(40, 5)...), made(3)} {
		for i, kept := range keptOfMany() {
			for _, torn := range []int{0, 1, 63, 64, i % 64} {
				got := crash(t, d, kept, torn)
				if !slices.Equal(got.Sectors, crashed(d, kept, torn)) || len(got.Writes) != 0 {
					t.Fatalf("%d sectors, %d writes, kept %b, torn by %d: not as it must be", len(d.Sectors), len(d.Writes), kept, torn)
				}
			}
			high := kept &^ (1<<len(d.Writes) - 1)
			if !same(crash(t, d, kept, 9), crash(t, d, kept^high, 9)) {
				t.Fatalf("%d writes, kept %b: bits of no write count", len(d.Writes), kept)
			}
		}
	}
}

// P3.3: whatever was done, what is read is what was put last; and a flush changes nothing of that.
func TestReadIsWhatWasPutLast(t *testing.T) {
	d, e := disk.New(7)
	d = must(t, d, e)
	last := slices.Repeat([]string{zeros}, 7)
	for i := range 500 {
		at, data := i*i%7, noise(uint32(i))
		if len(d.Writes) == 64 || i%29 == 0 {
			d = flush(t, d)
			for k := range last {
				if get(t, d, k) != last[k] {
					t.Fatalf("at step %d a flush changes what is read of %d", i, k)
				}
			}
		}
		d = put(t, d, at, data)
		last[at] = data
		for k := range last {
			if get(t, d, k) != last[k] {
				t.Fatalf("at step %d %d is not read as it was put last", i, k)
			}
		}
	}
}

// P3.3: behind a flush a crash changes nothing at all, nor another flush.
func TestNothingIsLostBehindAFlush(t *testing.T) {
	for name, d := range right() {
		d = flush(t, d)
		for _, kept := range keptOfMany() {
			for _, torn := range []int{-1, 0, 1, 32, 63, 64} {
				if !same(crash(t, d, kept, torn), d) {
					t.Fatalf("%s: a crash of %b, torn by %d, changes a disk that was flushed", name, kept, torn)
				}
			}
		}
		if !same(flush(t, d), d) {
			t.Errorf("%s: a second flush changes it", name)
		}
	}
}

// P3.3: of a sector a crash leaves what was safe, or bytes of writes at it: each byte is one of theirs, at its own place.
func TestACrashBringsNoOtherBytes(t *testing.T) {
	for name, d := range right() {
		for i, kept := range keptOfMany() {
			got := crash(t, d, kept, i%66)
			if len(got.Sectors) != len(d.Sectors) || !disk.Right(got) {
				t.Fatalf("%s: %d sectors behind a crash, %d ahead of it", name, len(got.Sectors), len(d.Sectors))
			}
			for at, s := range got.Sectors {
				may := []string{d.Sectors[at]}
				for _, w := range d.Writes {
					if w.At == at {
						may = append(may, w.Data)
					}
				}
				for k := range len(s) {
					if !slices.ContainsFunc(may, func(m string) bool { return m[k] == s[k] }) {
						t.Fatalf("%s: byte %d of sector %d is of no write", name, k, at)
					}
				}
			}
		}
	}
}
