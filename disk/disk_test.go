package disk_test

import (
	"math"
	"slices"
	"strings"
	"sync"
	"testing"

	"tarry/api"
	"tarry/disk"
)

var zeros = strings.Repeat("\x00", 64)

// full is a sector of one letter.
func full(letter string) string { return strings.Repeat(letter, 64) }

// noise is a sector's bytes, of every kind, the same at each run.
func noise(seed uint32) string {
	b := make([]byte, 64)
	for i := range b {
		seed = seed*1664525 + 1013904223
		b[i] = byte(seed >> 24)
	}
	return string(b)
}

func write(at int, data string) api.Write { return api.Write{At: at, Data: data} }

// made is a disk of sectors that all differ, with those writes.
func made(sectors int, writes ...api.Write) api.Disk {
	d := api.Disk{Writes: writes}
	for i := range sectors {
		d.Sectors = append(d.Sectors, noise(uint32(i)+5000))
	}
	return d
}

// many are so many writes, that all differ, at a disk's sectors in turn.
func many(n, sectors int) []api.Write {
	var l []api.Write
	for i := range n {
		l = append(l, write(i*7%sectors, noise(uint32(i)+9000)))
	}
	return l
}

func same(a, b api.Disk) bool {
	return slices.Equal(a.Sectors, b.Sectors) && slices.Equal(a.Writes, b.Writes)
}

func isNothing(d api.Disk) bool { return len(d.Sectors) == 0 && len(d.Writes) == 0 }

func must(t *testing.T, d api.Disk, e api.Errno) api.Disk {
	t.Helper()
	if e != api.OK {
		t.Fatalf("refused: %d", e)
	}
	return d
}

func put(t *testing.T, d api.Disk, at int, data string) api.Disk {
	t.Helper()
	d, e := disk.Put(d, at, data)
	return must(t, d, e)
}

func get(t *testing.T, d api.Disk, at int) string {
	t.Helper()
	s, e := disk.Get(d, at)
	if e != api.OK {
		t.Fatalf("Get of %d tells %d", at, e)
	}
	return s
}

func flush(t *testing.T, d api.Disk) api.Disk {
	t.Helper()
	d, e := disk.Flush(d)
	return must(t, d, e)
}

// wrong are disks that may not be, each by one thing alone.
func wrong() map[string]api.Disk {
	short, long := made(3), made(3)
	short.Sectors[2] = short.Sectors[2][:63]
	long.Sectors[0] += "x"
	empty := made(3)
	empty.Sectors[1] = ""
	return map[string]api.Disk{
		"nothing":                      {},
		"empty lists":                  {Sectors: []string{}, Writes: []api.Write{}},
		"no sectors, a write":          {Writes: []api.Write{write(0, zeros)}},
		"513 sectors":                  made(513),
		"5000 sectors":                 made(5000),
		"a sector of 63 bytes":         short,
		"a sector of 65 bytes":         long,
		"a sector of none":             empty,
		"65 writes":                    made(3, many(65, 3)...),
		"1000 writes":                  made(3, many(1000, 3)...),
		"a write at -1":                made(3, write(-1, zeros)),
		"a write behind the end":       made(3, write(0, zeros), write(3, zeros)),
		"a write far behind":           made(3, write(math.MaxInt, zeros)),
		"a write far ahead":            made(3, write(math.MinInt, zeros)),
		"a write of 63 bytes":          made(3, write(0, zeros[1:])),
		"a write of 65 bytes":          made(3, write(0, zeros+"x"), write(1, zeros)),
		"a write of none":              made(3, write(0, zeros), write(1, "")),
		"the 64th write of 63 bytes":   made(3, append(many(63, 3), write(0, zeros[1:]))...),
		"the 64th write at 3":          made(3, append(many(63, 3), write(3, zeros))...),
		"a write of 64 runes, no more": made(3, write(0, strings.Repeat("é", 64))),
	}
}

// right are disks that may be.
func right() map[string]api.Disk {
	return map[string]api.Disk{
		"one sector":              made(1),
		"one sector, empty lists": {Sectors: []string{zeros}, Writes: []api.Write{}},
		"512 sectors":             made(512),
		"512 sectors, 64 writes":  made(512, many(64, 512)...),
		"one sector, 64 writes":   made(1, many(64, 1)...),
		"3 sectors, 5 writes":     made(3, many(5, 3)...),
		"writes at both ends":     made(3, write(2, full("a")), write(0, full("b"))),
		"the same write twice":    made(2, write(1, full("a")), write(1, full("a"))),
		"a write of what was":     made(2, write(0, made(2).Sectors[0])),
		"no UTF-8":                {Sectors: []string{full("\xff")}, Writes: []api.Write{write(0, full("\x80"))}},
	}
}

// P3.1: New.
func TestNew(t *testing.T) {
	for _, n := range []int{1, 2, 8, 64, 511, 512} {
		d, e := disk.New(n)
		if e != api.OK || len(d.Sectors) != n || len(d.Writes) != 0 || !disk.Right(d) {
			t.Errorf("New(%d): %d sectors, %d writes, %d", n, len(d.Sectors), len(d.Writes), e)
		}
		for i, s := range d.Sectors {
			if s != zeros || get(t, d, i) != zeros {
				t.Errorf("New(%d): sector %d is %q", n, i, s)
			}
		}
	}
	for _, n := range []int{0, -1, 513, 1 << 40, math.MaxInt, math.MinInt} {
		if d, e := disk.New(n); e != api.ErrArg || !isNothing(d) {
			t.Errorf("New(%d): %d sectors, %d; want ErrArg", n, len(d.Sectors), e)
		}
	}
}

// P3.1: Right.
func TestRight(t *testing.T) {
	for name, d := range right() {
		if !disk.Right(d) {
			t.Errorf("%s: it may be", name)
		}
	}
	for name, d := range wrong() {
		if disk.Right(d) {
			t.Errorf("%s: it may not be", name)
		}
	}
}

// P3.1, P3.2 and R2: a disk that may not be is refused ahead of all else, and nothing is answered beside that.
func TestWrongDisksAreRefused(t *testing.T) {
	for name, d := range wrong() {
		for _, at := range []int{0, 1, -1, 3, 513, math.MaxInt, math.MinInt} {
			for _, data := range []string{zeros, "", "short"} {
				if got, e := disk.Put(d, at, data); e != api.ErrArg || !isNothing(got) {
					t.Errorf("%s: Put at %d: %d", name, at, e)
				}
			}
			if got, e := disk.Get(d, at); e != api.ErrArg || got != "" {
				t.Errorf("%s: Get at %d: %q, %d", name, at, got, e)
			}
			if got, e := disk.Crash(d, uint64(at), at); e != api.ErrArg || !isNothing(got) {
				t.Errorf("%s: Crash of %d: %d", name, at, e)
			}
		}
		if got, e := disk.Flush(d); e != api.ErrArg || !isNothing(got) {
			t.Errorf("%s: Flush: %d", name, e)
		}
	}
}

// P3.1: Put is a write more, behind the others, and leaves the rest.
func TestPut(t *testing.T) {
	for name, d := range right() {
		for at := range d.Sectors {
			if len(d.Writes) == 64 {
				break
			}
			data := noise(uint32(at) + 77)
			want := api.Disk{Sectors: d.Sectors, Writes: append(slices.Clone(d.Writes), write(at, data))}
			if got := put(t, d, at, data); !same(got, want) || !disk.Right(got) {
				t.Fatalf("%s: Put at %d: not a write more", name, at)
			}
		}
	}
	d := made(1)
	for i := range 64 {
		d = put(t, d, 0, noise(uint32(i)))
		if len(d.Writes) != i+1 || get(t, d, 0) != noise(uint32(i)) {
			t.Fatalf("behind %d writes: %d, read %q", i+1, len(d.Writes), get(t, d, 0))
		}
	}
}

// P3.1 and P1: what Put refuses, and which error comes first.
func TestPutRefuses(t *testing.T) {
	room, no := made(3, many(63, 3)...), made(3, many(64, 3)...)
	for _, c := range []struct {
		name string
		d    api.Disk
		at   int
		data string
		e    api.Errno
	}{
		{"all well", room, 2, zeros, api.OK},
		{"behind the end", room, 3, zeros, api.ErrNone},
		{"ahead of it", room, -1, zeros, api.ErrNone},
		{"far behind", room, math.MaxInt, zeros, api.ErrNone},
		{"far ahead", room, math.MinInt, zeros, api.ErrNone},
		{"behind the end, of 63 bytes", room, 3, zeros[1:], api.ErrNone},
		{"behind the end, of none, and full", no, 3, "", api.ErrNone},
		{"of 63 bytes", room, 0, zeros[1:], api.ErrArg},
		{"of 65 bytes", room, 0, zeros + "x", api.ErrArg},
		{"of none", room, 2, "", api.ErrArg},
		{"of 64 runes", room, 0, strings.Repeat("é", 64), api.ErrArg},
		{"of 63 bytes, and full", no, 0, zeros[1:], api.ErrArg},
		{"full", no, 0, zeros, api.ErrFull},
		{"full, at the end", no, 2, full("a"), api.ErrFull},
	} {
		got, e := disk.Put(c.d, c.at, c.data)
		if e != c.e || isNothing(got) != (e != api.OK) {
			t.Errorf("%s: %d; want %d", c.name, e, c.e)
		}
	}
}

// lastly is what is read of a sector, sought from the front.
func lastly(d api.Disk, at int) string {
	s := d.Sectors[at]
	for _, w := range d.Writes {
		if w.At == at {
			s = w.Data
		}
	}
	return s
}

// P3.1: Get.
func TestGet(t *testing.T) {
	for name, d := range right() {
		for at := range d.Sectors {
			if s, want := get(t, d, at), lastly(d, at); s != want {
				t.Errorf("%s: sector %d is read as %q; want %q", name, at, s, want)
			}
		}
		for _, at := range []int{-1, len(d.Sectors), len(d.Sectors) + 1, math.MaxInt, math.MinInt} {
			if s, e := disk.Get(d, at); s != "" || e != api.ErrNone {
				t.Errorf("%s: Get at %d: %q, %d; want ErrNone", name, at, s, e)
			}
		}
	}
	d := made(3, write(1, full("a")), write(0, full("b")), write(1, full("c")), write(0, full("b")))
	for at, want := range []string{full("b"), full("c"), d.Sectors[2]} {
		if s := get(t, d, at); s != want {
			t.Errorf("sector %d is read as %q; want %q", at, s, want)
		}
	}
}

// P3.1: Flush.
func TestFlush(t *testing.T) {
	for name, d := range right() {
		got := flush(t, d)
		if len(got.Sectors) != len(d.Sectors) || len(got.Writes) != 0 {
			t.Errorf("%s: %d sectors, %d writes", name, len(got.Sectors), len(got.Writes))
		}
		for at := range d.Sectors {
			if got.Sectors[at] != lastly(d, at) {
				t.Errorf("%s: sector %d is %q; want %q", name, at, got.Sectors[at], lastly(d, at))
			}
		}
	}
	d := flush(t, made(2, write(1, full("a")), write(0, full("b")), write(1, full("c"))))
	if !slices.Equal(d.Sectors, []string{full("b"), full("c")}) {
		t.Errorf("sectors %q", d.Sectors)
	}
}

// R1: the same arguments have the same answer, whoever else calls; run with -race it tells too that nothing is shared.
func TestNothingIsKept(t *testing.T) {
	d := made(4, many(9, 4)...)
	want := api.Disk{Sectors: crashed(d, 0b101, 7)}
	var wait sync.WaitGroup
	for k := range 8 {
		wait.Go(func() {
			for i := range 50 {
				other, _ := disk.New(k + 1)
				disk.Put(other, 0, noise(uint32(i)))
				disk.Put(d, k%4, noise(uint32(i)))
				disk.Flush(d)
				if got, e := disk.Crash(d, 0b101, 7); e != api.OK || !same(got, want) {
					t.Errorf("Crash: %d", e)
				}
				if s, e := disk.Get(d, 1); e != api.OK || s != lastly(d, 1) {
					t.Errorf("Get: %q, %d", s, e)
				}
			}
		})
	}
	wait.Wait()
}

// spoil changes all of a disk, in its lists' own memory, and behind their ends.
func spoil(d api.Disk) {
	for i := range d.Sectors[:cap(d.Sectors)] {
		d.Sectors[:cap(d.Sectors)][i] = "spoilt"
	}
	for i := range d.Writes[:cap(d.Writes)] {
		d.Writes[:cap(d.Writes)][i] = write(-9, "spoilt")
	}
}

// roomy is a disk whose lists have room behind their ends, and what lies there.
func roomy(d api.Disk) (api.Disk, api.Disk) {
	all := api.Disk{Sectors: slices.Concat(d.Sectors, []string{"behind", "it"}), Writes: slices.Concat(d.Writes, []api.Write{write(-5, "behind"), {}})}
	return api.Disk{Sectors: all.Sectors[:len(d.Sectors)], Writes: all.Writes[:len(d.Writes)]}, all
}

// R4: no list that was handed in is changed, be it behind its end; and who spoils an answer spoils nothing else.
func TestListsStay(t *testing.T) {
	for name, d := range right() {
		for call, do := range map[string]func(api.Disk) (api.Disk, api.Errno){
			"Put":   func(d api.Disk) (api.Disk, api.Errno) { return disk.Put(d, 0, full("p")) },
			"Flush": disk.Flush,
			"Crash": func(d api.Disk) (api.Disk, api.Errno) { return disk.Crash(d, 1, 9) },
			"Get": func(d api.Disk) (api.Disk, api.Errno) {
				_, e := disk.Get(d, 0)
				return api.Disk{}, e
			},
			"Right": func(d api.Disk) (api.Disk, api.Errno) {
				disk.Right(d)
				return api.Disk{}, api.OK
			},
		} {
			given, all := roomy(d)
			_, before := roomy(d)
			got, e := do(given)
			if !same(all, before) {
				t.Errorf("%s: %s changes what it was handed", name, call)
			}
			spoil(got)
			if !same(all, before) {
				t.Errorf("%s: the answer of %s shares a list with its argument", name, call)
			}
			if _, f := do(given); f != e {
				t.Errorf("%s: %s tells %d, and then %d", name, call, e, f)
			}
		}
	}
	first, _ := disk.New(2)
	spoil(first)
	if again, e := disk.New(2); e != api.OK || !slices.Equal(again.Sectors, []string{zeros, zeros}) {
		t.Errorf("New again: %q, %d", again.Sectors, e)
	}
}

// R3: nil lists and empty ones are answered alike.
func TestNilListsAreEmptyOnes(t *testing.T) {
	bare, empty := made(2), made(2)
	empty.Writes = []api.Write{}
	if !same(put(t, bare, 1, full("a")), put(t, empty, 1, full("a"))) {
		t.Error("Put tells them apart")
	}
	if !same(flush(t, bare), flush(t, empty)) || !same(flush(t, bare), bare) {
		t.Error("Flush tells them apart")
	}
	if !same(crash(t, bare, 3, 5), crash(t, empty, 3, 5)) || get(t, bare, 1) != get(t, empty, 1) {
		t.Error("Crash or Get tells them apart")
	}
}

// R5: every byte is a byte as any other, wherever it stands.
func TestEveryByteIsKept(t *testing.T) {
	for b := range 256 {
		s := strings.Repeat(string([]byte{byte(b)}), 64)
		d := put(t, made(2), 1, s)
		if get(t, d, 1) != s || get(t, flush(t, d), 1) != s {
			t.Errorf("byte %d is not read as it was put", b)
		}
		torn := crash(t, d, 0, 40)
		if got, want := get(t, torn, 1), s[:40]+made(2).Sectors[1][40:]; got != want {
			t.Errorf("byte %d, torn: %q; want %q", b, got, want)
		}
	}
}
