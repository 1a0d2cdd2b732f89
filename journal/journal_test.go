package journal_test

import (
	"math"
	"slices"
	"strings"
	"sync"
	"testing"

	"tarry/api"
	"tarry/frame"
	"tarry/journal"
)

// The chapter's example.
func TestExample(t *testing.T) {
	j := commit(t, appended(t, format(t, 8), "a"))
	if !slices.Equal(j.Records, []string{"a"}) || len(j.Group) != 0 {
		t.Errorf("Records %q, Group %q", j.Records, j.Group)
	}
}

// P5.1: Format: every number of sectors that may be, and the disk's bytes written out.
func TestFormat(t *testing.T) {
	first := "tarry\x00\x01" + strings.Repeat("\x00", 25)
	for n := 8; n <= 512; n++ {
		sectors := slices.Repeat([]string{zeros}, n)
		sectors[1] = first + first
		want := api.Journal{Disk: api.Disk{Sectors: sectors}, Seals: 1}
		if j := format(t, n); !same(j, want) || !journal.Right(j) || !same(open(t, j.Disk), want) {
			t.Errorf("Format(%d): %d sectors, Seals %d, Half %d, Used %d", n, len(j.Disk.Sectors), j.Seals, j.Half, j.Used)
		}
	}
	for _, n := range []int{7, 1, 0, -1, -8, 513, 1024, 1 << 40, math.MaxInt, math.MinInt} {
		if j, e := journal.Format(n); e != api.ErrArg || !isNothing(j) {
			t.Errorf("Format(%d): %d sectors, %d; want ErrArg", n, len(j.Disk.Sectors), e)
		}
	}
}

// P5.1: Open: of every disk that has a journal just that, and nothing waits.
func TestOpen(t *testing.T) {
	for name, j := range right() {
		if got := open(t, j.Disk); !same(got, waits(j)) || !journal.Right(got) {
			t.Errorf("%s: Seals %d, Half %d, Used %d, %d records", name, got.Seals, got.Half, got.Used, len(got.Records))
		}
	}
	for name, b := range broken() {
		if got, e := journal.Open(b.d); e != b.e || !isNothing(got) {
			t.Errorf("%s: %d; want %d", name, e, b.e)
		}
	}
}

// P5.1: where the halves lie: of sectors of an odd number the last one is in neither.
func TestHalves(t *testing.T) {
	for _, n := range []int{8, 9, 10, 11, 12, 16, 17, 40, 100, 511, 512} {
		room := (n - 2) / 2 * 64
		if room != rooms(n) {
			t.Fatalf("%d sectors: the test's own halves have %d bytes", n, rooms(n))
		}
		for half, seals := range []int{5, 6} {
			j := with(n, half, seals, filled(room, 900)...)
			if got := open(t, j.Disk); !same(got, j) || got.Used != room {
				t.Errorf("%d sectors, half %d: %d records of %d bytes", n, half, len(got.Records), got.Used)
			}
			d := written(j.Disk, api.Write{At: seals % 2, Data: headed(byte(half), uint64(seals), uint32(room)+1)})
			if _, e := journal.Open(d); e != api.ErrSyntax {
				t.Errorf("%d sectors, half %d: a byte more than its room: %d", n, half, e)
			}
		}
	}
}

// P5.1: of two heads that one counts which has more seals, whatever both tell; a sector that is none counts for nothing.
func TestTheNewerHeadCounts(t *testing.T) {
	a, b := []string{"a", "bc"}, []string{"d"}
	for _, c := range []struct {
		name  string
		first string
		other string
		want  api.Journal
	}{
		{"the first one", headed(0, 4, 13), headed(1, 3, 6), api.Journal{Seals: 4, Half: 0, Used: 13, Records: a}},
		{"the second one", headed(0, 4, 13), headed(1, 5, 6), api.Journal{Seals: 5, Half: 1, Used: 6, Records: b}},
		{"the first one, by far", headed(0, most, 13), headed(1, 3, 6), api.Journal{Seals: most, Half: 0, Used: 13, Records: a}},
		{"the second one, by far", headed(0, 2, 13), headed(1, most-1, 6), api.Journal{Seals: most - 1, Half: 1, Used: 6, Records: b}},
		{"by its highest byte", headed(0, 1<<32, 13), headed(1, 1<<32-1, 6), api.Journal{Seals: 1 << 32, Half: 0, Used: 13, Records: a}},
		{"of one half", headed(0, 4, 6), headed(0, 3, 13), api.Journal{Seals: 4, Half: 0, Used: 6, Records: a[:1]}},
		{"of one half, and used of none", headed(0, 4, 13), headed(0, 5, 0), api.Journal{Seals: 5, Half: 0, Used: 0}},
		{"of the first one's seals", headed(0, 2, 13), headed(1, 1, 6), api.Journal{Seals: 2, Half: 0, Used: 13, Records: a}},
		{"the older one's records are broken", headed(0, 4, 13), headed(1, 3, 5), api.Journal{Seals: 4, Half: 0, Used: 13, Records: a}},
		{"one of too many seals is none", headed(0, 4, 13), headed(1, most+1, 6), api.Journal{Seals: 4, Half: 0, Used: 13, Records: a}},
		{"one of seals below 0 is none", headed(0, 4, 13), headed(1, 1<<63+5, 6), api.Journal{Seals: 4, Half: 0, Used: 13, Records: a}},
		{"one of another place is none", headed(0, 4, 13), headed(1, 6, 6), api.Journal{Seals: 4, Half: 0, Used: 13, Records: a}},
		{"one of no half is none", headed(0, 4, 13), headed(2, 5, 6), api.Journal{Seals: 4, Half: 0, Used: 13, Records: a}},
		{"one of no seals is none", headed(0, 0, 13), headed(1, 1, 6), api.Journal{Seals: 1, Half: 1, Used: 6, Records: b}},
		{"one that is half another one is none", headed(0, 4, 13), headed(1, 5, 6)[:32] + headed(1, 3, 6)[32:], api.Journal{Seals: 4, Half: 0, Used: 13, Records: a}},
		{"zeros are none", headed(0, 4, 13), zeros, api.Journal{Seals: 4, Half: 0, Used: 13, Records: a}},
	} {
		c.want.Disk = made(12, over{0, c.first}, over{64, c.other}, over{from(12, 0), framed(a...)}, over{from(12, 1), framed(b...)})
		if got := open(t, c.want.Disk); !same(got, c.want) {
			t.Errorf("%s: Seals %d, Half %d, Used %d, records %q", c.name, got.Seals, got.Half, got.Used, got.Records)
		}
	}
}

// P5.1: a head has just such bytes: each bit of it, turned, makes none of it.
func TestEveryBitOfAHeadCounts(t *testing.T) {
	for _, j := range []api.Journal{with(12, 0, 3, "a"), with(12, 1, 1<<39+2, "a", "bc"), with(512, 1, 0x0102030405, noise(1, 900))} {
		at := j.Seals % 2
		for bit := range 64 * 8 {
			b := []byte(j.Disk.Sectors[at])
			b[bit/8] ^= 1 << (bit % 8)
			d := written(j.Disk, api.Write{At: at, Data: string(b)})
			if got, e := journal.Open(d); e != api.ErrSyntax || !isNothing(got) {
				t.Errorf("Seals %d: bit %d turned: %d; want ErrSyntax", j.Seals, bit, e)
			}
			// Turned in both halves alike: no head, or another one, but never the same.
			b[(bit/8+32)%64] ^= 1 << (bit % 8)
			d = written(j.Disk, api.Write{At: at, Data: string(b)})
			if got, e := journal.Open(d); e == api.OK && got.Seals == j.Seals && got.Half == j.Half && got.Used == j.Used {
				t.Errorf("Seals %d: bit %d turned twice counts for nothing", j.Seals, bit)
			}
		}
	}
}

// P5.1: the empty record's frame is five zeros: of zeros, as many bytes as these have are records, others are not.
func TestOpenZeros(t *testing.T) {
	for used := range 193 {
		d := written(api.Disk{Sectors: slices.Repeat([]string{zeros}, 8)}, api.Write{At: 1, Data: headed(1, 1, uint32(used))})
		j, e := journal.Open(d)
		if used%5 != 0 {
			if e != api.ErrCheck || !isNothing(j) {
				t.Errorf("%d zeros: %d; want ErrCheck", used, e)
			}
		} else if !same(j, api.Journal{Disk: d, Seals: 1, Half: 1, Used: used, Records: make([]string, used/5)}) || e != api.OK {
			t.Errorf("%d zeros: %d records, %d", used, len(j.Records), e)
		}
	}
}

// P5.1: Right.
func TestRight(t *testing.T) {
	for name, j := range right() {
		if !journal.Right(j) {
			t.Errorf("%s: it may be", name)
		}
	}
	for name, j := range wrong() {
		if journal.Right(j) {
			t.Errorf("%s: it may not be", name)
		}
	}
}

// P5.1: a group may be just if its records may be appended, one by one.
func TestRightAsAppended(t *testing.T) {
	for n, long := range []int{0, 1, 20, 57, 58, 100, 180, 181, 182, 183, 184, 300, 900, 1000, 1001} {
		for many := range 19 {
			for _, j := range []api.Journal{with(8, 0, 1, "a"), with(40, 1, 2), with(512, 0, 1, noise(1, 4096))} {
				group := slices.Repeat([]string{noise(uint32(n), long)}, many)
				may, e := j, api.OK
				for _, data := range group {
					if e == api.OK {
						may, e = journal.Append(may, data)
					}
				}
				if journal.Right(waits(j, group...)) != (e == api.OK) {
					t.Errorf("%d of %d bytes, of %d sectors: appended %d, but Right tells %v", many, long, len(j.Disk.Sectors), e, e != api.OK)
				}
				if e == api.OK && !same(may, waits(j, group...)) {
					t.Errorf("%d of %d bytes: appended as other ones", many, long)
				}
			}
		}
	}
}

// P5.2 to P5.4, P1 and R2: a journal that may not be is refused ahead of all else, and nothing is answered beside that.
func TestWrongJournalsAreRefused(t *testing.T) {
	for name, j := range wrong() {
		for _, data := range []string{"", "x", noise(1, 1001), noise(2, 3001), noise(3, 5000)} {
			if got, e := journal.Append(j, data); e != api.ErrArg || !isNothing(got) {
				t.Errorf("%s: Append of %d bytes: %d", name, len(data), e)
			}
			if got, e := journal.Compact(j, data); e != api.ErrArg || !isNothing(got) {
				t.Errorf("%s: Compact of %d bytes: %d", name, len(data), e)
			}
			for _, late := range []bool{false, true} {
				if got, e := journal.Crash(j, data, late, 1, 7); e != api.ErrArg || !isNoDisk(got) {
					t.Errorf("%s: Crash of %d bytes, late %v: %d", name, len(data), late, e)
				}
			}
		}
		if got, e := journal.Commit(j); e != api.ErrArg || !isNothing(got) {
			t.Errorf("%s: Commit: %d", name, e)
		}
	}
}

// P5.2: what is appended waits behind the others; nothing else is another one.
func TestAppend(t *testing.T) {
	for name, j := range right() {
		for _, data := range []string{"", "x", "\x00\xff", framed("a"), headed(1, 3, 5)} {
			want := waits(j, append(slices.Clone(j.Group), data)...)
			got, e := journal.Append(j, data)
			if journal.Right(want) != (e == api.OK) {
				t.Errorf("%s: Append of %q: %d", name, data, e)
			}
			if e == api.OK && (!same(got, want) || !journal.Right(got)) || e != api.OK && !isNothing(got) {
				t.Errorf("%s: Append of %q: Group %q", name, data, got.Group)
			}
		}
	}
}

// P5.2: what Append refuses, at its edges, and which error comes first.
func TestAppendRefuses(t *testing.T) {
	great, small := with(100, 0, 3, "a"), with(8, 0, 3, "a", noise(7, 40)) // 192 - 6 - 45 = 141 bytes are left
	sixteen := slices.Repeat([]string{"x"}, 16)
	for _, c := range []struct {
		name string
		j    api.Journal
		long int
		e    api.Errno
	}{
		{"none", great, 0, api.OK},
		{"1000 bytes", great, 1000, api.OK},
		{"1001 bytes", great, 1001, api.ErrLong},
		{"a million bytes", great, 1 << 20, api.ErrLong},
		{"the sixteenth", waits(great, sixteen[1:]...), 3, api.OK},
		{"the seventeenth", waits(great, sixteen...), 3, api.ErrFull},
		{"the seventeenth, of none", waits(great, sixteen...), 0, api.ErrFull},
		{"the seventeenth, of 1001 bytes", waits(great, sixteen...), 1001, api.ErrLong},
		{"up to 3000 bytes", waits(great, filled(2012, 1000)...), 982, api.OK},
		{"up to 3001 bytes", waits(great, filled(2012, 1000)...), 983, api.ErrFull},
		{"up to far more", waits(great, filled(2012, 1000)...), 1000, api.ErrFull},
		{"up to more, of 1001 bytes", waits(great, filled(2012, 1000)...), 1001, api.ErrLong},
		{"none, at 2995 bytes", waits(great, filled(2995, 1000)...), 0, api.OK},
		{"none, at 2996 bytes", waits(great, filled(2996, 1000)...), 0, api.ErrFull},
		{"none, at 3000 bytes", waits(great, filled(3000, 1000)...), 0, api.ErrFull},
		{"up to a half's end", small, 135, api.OK},
		{"behind a half's end", small, 136, api.ErrFull},
		{"far behind a half's end", small, 1000, api.ErrFull},
		{"behind a half's end, of 1001 bytes", small, 1001, api.ErrLong},
		{"up to a half's end, behind another one", waits(small, "y"), 129, api.OK},
		{"behind a half's end, behind another one", waits(small, "y"), 130, api.ErrFull},
		{"all of a half", with(9, 1, 4), 186, api.OK},
		{"more than all of a half", with(9, 1, 4), 187, api.ErrFull},
		{"none, at a full half", with(8, 1, 9, filled(192, 20)...), 0, api.ErrFull},
		{"none, at a half with five bytes left", with(8, 1, 9, filled(187, 20)...), 0, api.OK},
		{"none, at a half with four bytes left", with(8, 1, 9, filled(188, 20)...), 0, api.ErrFull},
		{"up to a great half's end", with(512, 1, 9, filled(16320-1006, 900)...), 1000, api.OK},
		{"behind a great half's end", with(512, 1, 9, filled(16320-1005, 900)...), 1000, api.ErrFull},
		{"sealed as often as may be", with(12, 0, most, "a"), 10, api.OK},
	} {
		if !journal.Right(c.j) {
			t.Fatalf("%s: the test's own journal may not be", c.name)
		}
		data := noise(3, c.long)
		got, e := journal.Append(c.j, data)
		if e != c.e {
			t.Errorf("%s: %d; want %d", c.name, e, c.e)
		}
		if e == api.OK && !same(got, waits(c.j, append(slices.Clone(c.j.Group), data)...)) || e != api.OK && !isNothing(got) {
			t.Errorf("%s: Group of %d", c.name, len(got.Group))
		}
	}
}

// P5.3: what is committed, and its disk, to the last byte; committed again, with nothing that waits, too.
func TestCommit(t *testing.T) {
	for name, j := range right() {
		for range 3 {
			if j.Seals == most {
				break
			}
			got := commit(t, j)
			if !same(got, committed(j)) || !journal.Right(got) {
				t.Errorf("%s: Seals %d, Half %d, Used %d, %d records", name, got.Seals, got.Half, got.Used, len(got.Records))
			}
			j = got
		}
	}
}

// P5.3: Commit's disk, written out: what is behind Used goes on in the half's second sector, the rest of the third one stays, and the head's place changes.
func TestCommitWrittenOut(t *testing.T) {
	n := strings.Repeat("n", 64)
	first, second, third := noise(1, 59), "a", noise(2, 60)
	was := []string{n, headed(1, 3, 64), n, n, n, framed(first), n, n}
	got := commit(t, appended(t, open(t, api.Disk{Sectors: was}), second, third))
	added := framed(second, third)
	want := []string{headed(1, 4, 64+71), headed(1, 3, 64), n, n, n, framed(first), added[:64], added[64:71] + n[:57]}
	if !slices.Equal(got.Disk.Sectors, want) || len(got.Disk.Writes) != 0 {
		t.Errorf("sectors %q", got.Disk.Sectors)
	}
	if got.Seals != 4 || got.Half != 1 || got.Used != 135 || len(got.Group) != 0 || !slices.Equal(got.Records, []string{first, second, third}) {
		t.Errorf("Seals %d, Half %d, Used %d, records %q", got.Seals, got.Half, got.Used, got.Records)
	}
}

// P5.3: what is compacted, and its disk, to the last byte.
func TestCompact(t *testing.T) {
	for name, j := range right() {
		for _, data := range []string{"", "x", "\x00\xff", framed("a"), headed(1, 3, 5), noise(1, 186)} {
			if j.Seals == most {
				break
			}
			got := compact(t, j, data)
			if !same(got, compacted(j, data)) || !journal.Right(got) {
				t.Errorf("%s: Seals %d, Half %d, Used %d, %d records", name, got.Seals, got.Half, got.Used, len(got.Records))
			}
			j = got
		}
	}
}

// P5.3: what Commit and Compact refuse, at their edges, and which error comes first; and, of P5.4, Crash as these.
func TestSealsRefused(t *testing.T) {
	great, small, last := with(100, 0, 3, "a"), with(8, 0, 3, "a"), with(100, 1, most, "a")
	for _, c := range []struct {
		name string
		j    api.Journal
		long int
		e    api.Errno
	}{
		{"3000 bytes", great, 3000, api.OK},
		{"3001 bytes", great, 3001, api.ErrLong},
		{"4096 bytes", great, 4096, api.ErrLong},
		{"4097 bytes", great, 4097, api.ErrLong},
		{"a million bytes", great, 1 << 20, api.ErrLong},
		{"3000 bytes, of the greatest disk", with(512, 1, 3), 3000, api.OK},
		{"all of a half", small, 186, api.OK},
		{"more than all of a half", small, 187, api.ErrFull},
		{"far more", small, 3000, api.ErrFull},
		{"3001 bytes, of a small half", small, 3001, api.ErrLong},
		{"all of a half, of one more sector", with(9, 1, 4), 186, api.OK},
		{"more than that", with(9, 1, 4), 187, api.ErrFull},
		{"all of a half, of two more sectors", with(10, 1, 4), 64*4 - 6, api.OK},
		{"more than that, too", with(10, 1, 4), 64*4 - 5, api.ErrFull},
		{"sealed as often as may be", last, 1, api.ErrFull},
		{"sealed as often as may be, 3000 bytes", last, 3000, api.ErrFull},
		{"sealed as often as may be, 3001 bytes", last, 3001, api.ErrLong},
		{"sealed once less", with(100, 1, most-1, "a"), 1, api.OK},
	} {
		data := noise(3, c.long)
		for _, j := range []api.Journal{c.j, waits(c.j, "x", "")} {
			got, e := journal.Compact(j, data)
			if e != c.e || e == api.OK && !same(got, compacted(j, data)) || e != api.OK && !isNothing(got) {
				t.Errorf("%s: Compact: %d; want %d", c.name, e, c.e)
			}
			for _, late := range []bool{false, true} {
				d, e := journal.Crash(j, data, late, 1, 7)
				if e != c.e || e == api.OK && !sameDisk(d, crashed(j, data, late, 1, 7)) || e != api.OK && !isNoDisk(d) {
					t.Errorf("%s: Crash, late %v: %d; want %d", c.name, late, e, c.e)
				}
			}
		}
	}
	for _, j := range []api.Journal{last, waits(last, "x")} {
		if got, e := journal.Commit(j); e != api.ErrFull || !isNothing(got) {
			t.Errorf("Commit, sealed as often as may be: %d; want ErrFull", e)
		}
		if got, e := journal.Compact(j, ""); e != api.ErrFull || !isNothing(got) {
			t.Errorf("Compact of none, sealed as often as may be: %d; want ErrFull", e)
		}
		for _, late := range []bool{false, true} {
			if got, e := journal.Crash(j, "", late, 0, 0); e != api.ErrFull || !isNoDisk(got) {
				t.Errorf("Crash, sealed as often as may be: %d; want ErrFull", e)
			}
		}
	}
	once := waits(with(100, 1, most-1, "a"), "x")
	if got := commit(t, once); !same(got, committed(once)) || got.Seals != most {
		t.Errorf("Commit, sealed once less: Seals %d", got.Seals)
	}
}

// R1: the same arguments have the same answer, whoever else calls; run with -race it tells too that nothing is shared.
func TestNothingIsKept(t *testing.T) {
	j := waits(with(12, 0, 3, "a", "bc"), "d", "")
	var wait sync.WaitGroup
	for k := range 8 {
		wait.Go(func() {
			for i := range 20 {
				journal.Format(8 + k)
				journal.Open(made(12))
				journal.Append(j, noise(uint32(i), 1001))
				journal.Compact(j, noise(uint32(i), 20))
				if got, e := journal.Commit(j); e != api.OK || !same(got, committed(j)) {
					t.Errorf("Commit: %d", e)
				}
				if got, e := journal.Append(j, "e"); e != api.OK || !same(got, waits(j, "d", "", "e")) {
					t.Errorf("Append: %d", e)
				}
				if got, e := journal.Crash(j, "", i%2 == 0, 1, i); e != api.OK || !sameDisk(got, crashed(j, "", i%2 == 0, 1, i)) {
					t.Errorf("Crash: %d", e)
				}
			}
		})
	}
	wait.Wait()
}

// roomy is a list with room behind its end, and what lies there.
func roomy[T any](l []T, behind ...T) ([]T, []T) {
	all := slices.Concat(l, behind)
	return all[:len(l)], all
}

// spoil changes a list, in its own memory, and behind its end.
func spoil[T any](l []T, with T) {
	for i := range l[:cap(l)] {
		l[:cap(l)][i] = with
	}
}

// R4: no list that was handed in is changed, be it behind its end; who spoils one list of an answer spoils no other one, and no argument.
func TestListsStay(t *testing.T) {
	calls := map[string]func(api.Journal) (api.Journal, api.Errno){
		"Open":    func(j api.Journal) (api.Journal, api.Errno) { return journal.Open(j.Disk) },
		"Append":  func(j api.Journal) (api.Journal, api.Errno) { return journal.Append(j, "p") },
		"Commit":  journal.Commit,
		"Compact": func(j api.Journal) (api.Journal, api.Errno) { return journal.Compact(j, "p") },
		"Crash": func(j api.Journal) (api.Journal, api.Errno) {
			d, e := journal.Crash(j, "", true, 1, 9)
			return api.Journal{Disk: d}, e
		},
		"early Crash": func(j api.Journal) (api.Journal, api.Errno) {
			d, e := journal.Crash(j, "p", false, 1, 9)
			return api.Journal{Disk: d}, e
		},
		"Right": func(j api.Journal) (api.Journal, api.Errno) {
			journal.Right(j)
			return api.Journal{}, api.OK
		},
	}
	for name, j := range right() {
		for call, do := range calls {
			given := j
			var sectors, group, records []string
			var writes []api.Write
			given.Disk.Sectors, sectors = roomy(j.Disk.Sectors, "behind")
			given.Disk.Writes, writes = roomy(j.Disk.Writes, api.Write{At: 1, Data: "behind"})
			given.Group, group = roomy(j.Group, "behind", "it")
			given.Records, records = roomy(j.Records, "behind", "it")
			stays := func() bool {
				return slices.Equal(sectors, append(slices.Clone(j.Disk.Sectors), "behind")) &&
					slices.Equal(writes, append(slices.Clone(j.Disk.Writes), api.Write{At: 1, Data: "behind"})) &&
					slices.Equal(group, append(slices.Clone(j.Group), "behind", "it")) &&
					slices.Equal(records, append(slices.Clone(j.Records), "behind", "it"))
			}
			got, e := do(given)
			if !stays() {
				t.Errorf("%s: %s changes what it was handed", name, call)
			}
			whole := copied(got)
			spoil(got.Records, "spoilt")
			spoil(got.Group, "spoilt too")
			spoil(got.Disk.Writes, api.Write{At: -9, Data: "spoilt"})
			if !slices.Equal(got.Disk.Sectors, whole.Disk.Sectors) || slices.Contains(got.Records, "spoilt too") {
				t.Errorf("%s: two lists of the answer of %s share memory", name, call)
			}
			spoil(got.Disk.Sectors, "spoilt")
			if !stays() {
				t.Errorf("%s: the answer of %s shares a list with its argument", name, call)
			}
			if again, f := do(given); f != e || !same(again, whole) {
				t.Errorf("%s: %s tells %d, and then %d", name, call, e, f)
			}
		}
	}
	first := format(t, 8)
	spoil(first.Disk.Sectors, "spoilt")
	if again := format(t, 8); !same(again, open(t, again.Disk)) {
		t.Error("Format again: not as before")
	}
}

// R3: nil lists and empty ones are answered alike.
func TestNilListsAreEmptyOnes(t *testing.T) {
	bare := with(8, 0, 1)
	bare.Records = nil
	empty := with(8, 0, 1)
	empty.Records, empty.Group, empty.Disk.Writes = []string{}, []string{}, []api.Write{}
	if !journal.Right(bare) || !journal.Right(empty) || !same(open(t, bare.Disk), open(t, empty.Disk)) {
		t.Error("Right or Open tells them apart")
	}
	if !same(appended(t, bare, "a"), appended(t, empty, "a")) || !same(commit(t, bare), commit(t, empty)) || !same(compact(t, bare, "a"), compact(t, empty, "a")) {
		t.Error("Append, Commit or Compact tells them apart")
	}
}

// R5: every byte is a byte as any other, wherever it stands.
func TestEveryByteIsKept(t *testing.T) {
	for b := range 256 {
		s := strings.Repeat(string([]byte{byte(b)}), 9)
		j := commit(t, appended(t, format(t, 8), s, "", s[:1]))
		if !slices.Equal(open(t, j.Disk).Records, []string{s, "", s[:1]}) {
			t.Errorf("byte %d: records %q", b, j.Records)
		}
		if j = compact(t, j, s); !slices.Equal(open(t, j.Disk).Records, []string{s}) {
			t.Errorf("byte %d, compacted: records %q", b, j.Records)
		}
	}
}

// P1 and P5.1: disks whose heads tell anything, and whose halves are zeros and noise: Open tells what it must of each.
func TestAnyDisk(t *testing.T) {
	told := map[api.Errno]int{}
	for seed := range uint32(4000) {
		r := []byte(noise(seed*77, 20))
		n := 8 + int(r[0])%5
		d := made(n)
		for at := 2; at < n; at++ {
			if r[1+at]&3 > 0 {
				d.Sectors[at] = zeros
			}
		}
		want, e := api.Journal{}, api.ErrSyntax
		for place := range 2 {
			half, seals, used := r[13+place]%3, uint64(r[15+place])<<(r[17]%64)+uint64(place), uint32(r[18+place])
			if r[16]&1 == 1 {
				used *= 5
			}
			d.Sectors[place] = headed(half, seals, used)
			if half < 2 && 0 < seals && seals <= most && seals%2 == uint64(place) && int(used) <= rooms(n) && int(seals) > want.Seals {
				want, e = api.Journal{Disk: d, Seals: int(seals), Half: int(half), Used: int(used)}, api.OK
			}
		}
		if e == api.OK {
			bytes := strings.Join(d.Sectors[from(n, want.Half)/64:], "")[:want.Used]
			want.Records, e = frame.All(bytes)
		}
		told[e]++
		if e != api.OK {
			want = api.Journal{}
		}
		got, f := journal.Open(d)
		if f != e || !same(got, want) || journal.Right(got) != (e == api.OK) {
			t.Fatalf("seed %d: %d, Seals %d; want %d, Seals %d", seed, f, got.Seals, e, want.Seals)
		}
	}
	if len(told) != 3 || told[api.OK] < 100 || told[api.ErrCheck] < 100 || told[api.ErrSyntax] < 100 {
		t.Errorf("the disks are not of all kinds: %v", told)
	}
}
