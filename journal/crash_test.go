package journal_test

import (
	"math"
	"slices"
	"strings"
	"testing"

	"tarry/api"
	"tarry/journal"
)

func crash(t *testing.T, j api.Journal, whole string, late bool, kept uint64, torn int) api.Disk {
	t.Helper()
	d, e := journal.Crash(j, whole, late, kept, torn)
	if e != api.OK {
		t.Fatalf("Crash tells %d", e)
	}
	return d
}

// older is a journal whose other head is the one before its own, as it is behind a seal.
func older(j api.Journal, half, used int) api.Journal {
	j.Disk = written(j.Disk, api.Write{At: (j.Seals + 1) % 2, Data: headed(byte(half), uint64(j.Seals)-1, uint32(used))})
	return j
}

// P5.4: crashes written out: the journal of 8 sectors has one sector full, and four bytes of the second one; so a record that waits is laid into the rest of that, and into the third one.
func TestCrashWrittenOut(t *testing.T) {
	n := strings.Repeat("n", 64)
	first, second := noise(1, 59), noise(2, 70)
	was := []string{headed(0, 4, 69), headed(0, 3, 0), framed(first), framed("")[:5] + n[:59], n, n, n, n}
	j := appended(t, open(t, api.Disk{Sectors: was}), second)
	s := framed(second) // 2 + 70 + 4 bytes: 59 and 17
	middle, end := was[3][:5]+s[:59], s[59:]+n[:47]
	now := headed(0, 5, 69+76)
	whole := framed("whole")
	all, none := uint64(math.MaxUint64), uint64(0)
	for _, c := range []struct {
		name  string
		whole string
		late  bool
		kept  uint64
		torn  int
		want  []string
	}{
		{"nothing kept", "", false, none, 0, was},
		{"nothing kept, torn by 9: the zeros are written last", "", false, none, 9, []string{was[0], zeros[:9] + was[1][9:], was[2], was[3], n, n, n, n}},
		{"the first sector kept", "", false, 1, 0, []string{was[0], was[1], was[2], middle, n, n, n, n}},
		{"the second sector kept", "", false, 2, 0, []string{was[0], was[1], was[2], was[3], end, n, n, n}},
		{"the zeros kept", "", false, 4, 0, []string{was[0], zeros, was[2], was[3], n, n, n, n}},
		{"the zeros kept, the second sector torn", "", false, 4, 20, []string{was[0], zeros, was[2], was[3], end[:20] + n[:44], n, n, n}},
		{"all but the first sector kept, that torn", "", false, 6, 30, []string{was[0], zeros, was[2], middle[:30] + was[3][30:], end, n, n, n}},
		{"all kept ahead of the first flush", "", false, all, 9, []string{was[0], zeros, was[2], middle, end, n, n, n}},
		{"the head not kept", "", true, none, 0, []string{was[0], zeros, was[2], middle, end, n, n, n}},
		{"the head not kept, but its bit alone set off", "", true, all - 1, 64, []string{was[0], zeros, was[2], middle, end, n, n, n}},
		{"the head torn", "", true, none, 40, []string{was[0], now[:40] + zeros[40:], was[2], middle, end, n, n, n}},
		{"the head kept", "", true, 1, 9, []string{was[0], now, was[2], middle, end, n, n, n}},
		{"compacted: nothing kept", whole, false, none, 0, was},
		{"compacted: the other half's sector kept", "whole", false, 1, 0, []string{was[0], was[1], was[2], was[3], n, whole + n[10:], n, n}},
		{"compacted: that torn", "whole", false, 2, 3, []string{was[0], zeros, was[2], was[3], n, whole[:3] + n[3:], n, n}},
		{"compacted: all kept ahead of the first flush", "whole", false, 3, 0, []string{was[0], zeros, was[2], was[3], n, whole + n[10:], n, n}},
		{"compacted: the head not kept", "whole", true, none, 0, []string{was[0], zeros, was[2], was[3], n, whole + n[10:], n, n}},
		{"compacted: the head kept", "whole", true, 1, 0, []string{was[0], headed(1, 5, 10), was[2], was[3], n, whole + n[10:], n, n}},
	} {
		if d := crash(t, j, c.whole, c.late, c.kept, c.torn); !slices.Equal(d.Sectors, c.want) || len(d.Writes) != 0 {
			t.Errorf("%s: %q", c.name, d.Sectors)
		}
	}
}

// few are journals of which a seal has few writes, and what Crash seals instead of all of each, if it is not empty.
func few() []struct {
	j     api.Journal
	whole string
} {
	group := []string{noise(3, 50), "", noise(4, 90)}
	return []struct {
		j     api.Journal
		whole string
	}{
		{with(8, 0, 1), ""},
		{waits(with(8, 0, 1), "d"), ""},
		{waits(older(with(9, 0, 3, "a", "bc"), 0, 6), "d"), ""},
		{waits(older(with(9, 1, 4, "a", "bc"), 0, 192), "d", noise(2, 50)), ""},
		{waits(older(with(12, 0, 7, "a", noise(1, 57)), 1, 9), group...), ""},
		{waits(older(with(12, 1, 8, noise(1, 58)), 1, 0), group...), ""},
		{older(with(12, 1, 8, noise(1, 100)), 1, 105), ""},
		{waits(older(with(12, 1, most-1, "a"), 1, 5), group...), ""},
		{with(8, 0, 1), "w"},
		{waits(older(with(8, 0, 5, "a", "bc"), 1, 192), "d"), noise(5, 186)},
		{waits(older(with(12, 1, 6, "a", "bc"), 0, 15), "d"), noise(6, 200)},
		{older(with(12, 0, most-1, "a", "bc"), 1, 10), noise(7, 64)},
		{older(with(16, 1, 256, filled(300, 60)...), 1, 0), "\x00\x00\x00\x00\x00"},
	}
}

// holds holds a disk behind a crash against what the document promises: it opens, as things were, or, if late, as they would be; opened twice it is the same.
func holds(t *testing.T, j api.Journal, whole string, late bool, d api.Disk) api.Journal {
	t.Helper()
	got, e := journal.Open(d)
	if e != api.OK {
		t.Fatalf("behind a crash the disk does not open: %d", e)
	}
	was, would := waits(j), done(j, whole)
	was.Disk, would.Disk = d, d
	if !same(got, was) && (!late || !same(got, would)) {
		t.Fatalf("late %v: Seals %d, records %q; they were %d, %q", late, got.Seals, got.Records, was.Seals, was.Records)
	}
	if !journal.Right(got) || !same(open(t, got.Disk), got) {
		t.Fatal("opened twice it is not the same")
	}
	return got
}

// P5.4, P5.5 and P2: every choice of what is kept, torn by each number there is, of seals that have few writes.
func TestCrashEveryWay(t *testing.T) {
	for i, c := range few() {
		writes := 1 + len(laid(c.j, c.j.Half, c.j.Used, framed(c.j.Group...)))
		if c.whole != "" {
			writes = 1 + len(laid(c.j, 1-c.j.Half, 0, framed(c.whole)))
		}
		for kept := range uint64(1) << (writes - 1) {
			for torn := -2; torn <= 66; torn++ {
				for _, late := range []bool{false, true} {
					if late && kept > 3 {
						continue // there is one write
					}
					d := crash(t, c.j, c.whole, late, kept, torn)
					if !sameDisk(d, crashed(c.j, c.whole, late, kept, torn)) {
						t.Fatalf("journal %d, late %v, kept %b, torn by %d: %q", i, late, kept, torn, d.Sectors)
					}
					holds(t, c.j, c.whole, late, d)
				}
			}
		}
	}
}

// P5.5: late, all depends on the head: kept, all is as it would be; lost, as it was; torn, as it would be just if what is lost of it are zeros.
func TestALateHead(t *testing.T) {
	for i, c := range few() {
		would := done(c.j, c.whole)
		head := headed(byte(would.Half), uint64(would.Seals), uint32(would.Used))
		for torn := -1; torn <= 65; torn++ {
			got := holds(t, c.j, c.whole, true, crash(t, c.j, c.whole, true, math.MaxUint64, torn))
			if got.Seals != would.Seals || !sameDisk(got.Disk, would.Disk) {
				t.Errorf("journal %d: the head is kept, but not all is as it would be", i)
			}
			got = holds(t, c.j, c.whole, true, crash(t, c.j, c.whole, true, math.MaxUint64-1, torn))
			whole := 0 < torn && torn < 64 && head[:torn]+zeros[torn:] == head
			if (got.Seals == would.Seals) != whole {
				t.Errorf("journal %d, the head torn by %d: Seals %d", i, torn, got.Seals)
			}
		}
	}
}

// keptOfMany are some numbers of 64 bits, the edges among them.
func keptOfMany() []uint64 {
	l := []uint64{0, 1, math.MaxUint64, math.MaxInt64, 1 << 63, 1<<32 - 1, 1<<48 - 1, 1<<49 - 1}
	x := uint64(88172645463325252)
	for range 30 {
		x ^= x << 13
		x ^= x >> 7
		x ^= x << 17
		l = append(l, x)
	}
	for i := range 50 {
		l = append(l, 1<<i, ^(1 << i))
	}
	return l
}

// P5.4, P5.5 and P2: as many writes as a seal may have.
func TestCrashOfManyWrites(t *testing.T) {
	for _, c := range []struct {
		j     api.Journal
		whole string
		many  int
	}{
		{waits(older(with(100, 0, 3, noise(1, 57)), 0, 5), filled(3000, 900)...), "", 49},
		{waits(older(with(512, 1, 4, filled(13320, 900)...), 1, 13000), filled(3000, 183)...), "", 48},
		{older(with(100, 0, 3, "a"), 1, 3136), noise(2, 3000), 48},
	} {
		writes := len(laid(c.j, c.j.Half, c.j.Used, framed(c.j.Group...)))
		if c.whole != "" {
			writes = len(laid(c.j, 1-c.j.Half, 0, framed(c.whole)))
		}
		if writes != c.many {
			t.Errorf("%d writes; want %d", writes, c.many)
		}
		for i, kept := range keptOfMany() {
			for _, torn := range []int{0, 1, 63, 64, i % 64} {
				for _, late := range []bool{false, true} {
					d := crash(t, c.j, c.whole, late, kept, torn)
					if !sameDisk(d, crashed(c.j, c.whole, late, kept, torn)) {
						t.Fatalf("%d writes, late %v, kept %b, torn by %d: not as it must be", writes, late, kept, torn)
					}
					holds(t, c.j, c.whole, late, d)
				}
			}
		}
	}
}

// P5.4 and R2: numbers that tear nothing, and bits of no write, count for nothing.
func TestCrashOfAnyNumbers(t *testing.T) {
	j := waits(older(with(12, 0, 7, "a"), 1, 9), "d", noise(3, 90))
	for _, late := range []bool{false, true} {
		for _, whole := range []string{"", "w"} {
			for _, torn := range []int{-1, 64, 65, 1 << 40, math.MaxInt, math.MinInt} {
				if !sameDisk(crash(t, j, whole, late, 0, torn), crash(t, j, whole, late, 0, 0)) {
					t.Errorf("torn by %d, late %v: not as torn by 0", torn, late)
				}
			}
			for kept := range uint64(8) {
				if !sameDisk(crash(t, j, whole, late, kept, 9), crash(t, j, whole, late, kept|1<<63|1<<5, 9)) {
					t.Errorf("kept %b, late %v: bits of no write count", kept, late)
				}
			}
		}
	}
}

// P5.5: behind every crash that leaves a head torn, or a half half written, what is opened goes on: appended to, sealed, crashed again.
func TestWhatIsOpenedGoesOn(t *testing.T) {
	for i, c := range few() {
		for torn := range 65 {
			for kept := range uint64(4) {
				for _, late := range []bool{false, true} {
					got := holds(t, c.j, c.whole, late, crash(t, c.j, c.whole, late, kept, torn))
					if got.Seals == most {
						continue
					}
					for _, whole := range []string{"", "w"} {
						again := holds(t, got, whole, late, crash(t, got, whole, late, kept, 64-torn))
						if again.Seals == most {
							continue
						}
						if next := compact(t, again, "all"); !same(next, compacted(again, "all")) {
							t.Fatalf("journal %d: not compacted as it must be behind two crashes", i)
						}
						if next, e := journal.Append(again, "more"); e == api.OK {
							if next = commit(t, next); !slices.Equal(next.Records, append(slices.Clone(again.Records), "more")) {
								t.Fatalf("journal %d: records %q behind two crashes", i, next.Records)
							}
						}
					}
				}
			}
		}
	}
}

// walk is a journal, and what it must have, kept apart from it.
type walk struct {
	j      api.Journal
	sealed []string
	group  []string
	half   int
	seals  int
	seed   uint32
}

func (w *walk) draw(below int) int {
	w.seed = w.seed*1664525 + 1013904223
	return int(w.seed>>8) % below
}

func (w *walk) data() string {
	return noise(w.seed, []int{0, 1, 5, 30, 63, 64, 200, 1000, 1001}[w.draw(9)])
}

// fits tells whether records may wait behind those that are sealed.
func (w *walk) fits(group []string) bool {
	n := len(framed(group...))
	return len(group) <= 16 && n <= 3000 && len(framed(w.sealed...))+n <= rooms(len(w.j.Disk.Sectors))
}

func (w *walk) append(t *testing.T) {
	data, want := w.data(), api.OK
	group := append(slices.Clone(w.group), data)
	if len(data) > 1000 {
		want = api.ErrLong
	} else if !w.fits(group) {
		want = api.ErrFull
	}
	j, e := journal.Append(w.j, data)
	if e != want {
		t.Fatalf("Append of %d bytes: %d; want %d", len(data), e, want)
	}
	if e == api.OK {
		w.j, w.group = j, group
	}
}

// whole is what may stand for all, or nothing, if all that waits is to be sealed.
func (w *walk) whole() string {
	if w.draw(3) > 0 {
		return ""
	}
	return "whole" + noise(w.seed, w.draw(rooms(len(w.j.Disk.Sectors))/2))
}

func (w *walk) took(whole string) {
	w.seals++
	if whole == "" {
		w.sealed = append(w.sealed, w.group...)
	} else {
		w.sealed, w.half = []string{whole}, 1-w.half
	}
	w.group = nil
}

func (w *walk) seal(t *testing.T) {
	whole := w.whole()
	if whole == "" {
		w.j = commit(t, w.j)
	} else if len(whole) > 3000 {
		if _, e := journal.Compact(w.j, whole); e != api.ErrLong {
			t.Fatalf("Compact of %d bytes: %d", len(whole), e)
		}
		return
	} else {
		w.j = compact(t, w.j, whole)
	}
	w.took(whole)
}

func (w *walk) crash(t *testing.T) {
	whole, late := w.whole(), w.draw(2) == 0
	kept := uint64(w.draw(1<<20)) | uint64(w.draw(1<<20))<<20 | uint64(w.draw(1<<20))<<40
	if len(whole) > 3000 {
		whole = whole[:3000]
	}
	w.j = holds(t, w.j, whole, late, crash(t, w.j, whole, late, kept, w.draw(70)))
	if late && w.j.Seals > w.seals {
		w.took(whole)
	}
	w.group = nil
}

// P2, P5.3 and P5.5: long walks of all that may be done: behind each step what was sealed is there, and nothing but what was done.
func TestWalks(t *testing.T) {
	for i, sectors := range []int{8, 9, 10, 12, 17, 40, 100, 512} {
		w := &walk{j: format(t, sectors), seals: 1, seed: uint32(i)}
		for step := range 400 {
			switch w.draw(6) {
			case 0, 1, 2:
				w.append(t)
			case 3, 4:
				w.seal(t)
			case 5:
				w.crash(t)
			}
			j := w.j
			if j.Seals != w.seals || j.Half != w.half || !slices.Equal(j.Records, w.sealed) || !slices.Equal(j.Group, w.group) {
				t.Fatalf("%d sectors, step %d: Seals %d, Half %d, %d records, %d wait", sectors, step, j.Seals, j.Half, len(j.Records), len(j.Group))
			}
			if !journal.Right(j) || !same(open(t, j.Disk), waits(j)) {
				t.Fatalf("%d sectors, step %d: it may not be, or opens as another one", sectors, step)
			}
		}
	}
}
