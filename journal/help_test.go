package journal_test

import (
	"encoding/binary"
	"hash/crc32"
	"slices"
	"strings"
	"testing"

	"tarry/api"
	"tarry/disk"
	"tarry/journal"
)

const most = 1 << 40 // seals that there may be

var zeros = strings.Repeat("\x00", 64)

// headed is a head's bytes, by the library's numbers.
func headed(half byte, seals uint64, used uint32) string {
	b := append([]byte("tarry"), half)
	b = binary.LittleEndian.AppendUint64(b, seals)
	b = binary.LittleEndian.AppendUint32(b, used)
	return strings.Repeat(string(b)+strings.Repeat("\x00", 14), 2)
}

// framed are records' bytes, one behind the other, by the library's numbers and sums.
func framed(records ...string) string {
	var b []byte
	for _, data := range records {
		b = binary.AppendVarint(b, int64(len(data)))
		b = append(b, data...)
		b = binary.LittleEndian.AppendUint32(b, crc32.Checksum([]byte(data), crc32.MakeTable(crc32.Castagnoli)))
	}
	return string(b)
}

// noise is so many bytes, of every kind, the same at each run.
func noise(seed uint32, long int) string {
	b := make([]byte, long)
	for i := range b {
		seed = seed*1664525 + 1013904223
		b[i] = byte(seed >> 24)
	}
	return string(b)
}

// over is bytes that lie on a disk from a place on, its sectors counted through.
type over struct {
	at int
	s  string
}

// made is a disk of noise, but for the bytes that lie over it.
func made(sectors int, pieces ...over) api.Disk {
	b := []byte(noise(uint32(sectors), 64*sectors))
	for _, p := range pieces {
		copy(b[p.at:], p.s)
	}
	return api.Disk{Sectors: cut(string(b))}
}

// cut are bytes' sectors.
func cut(s string) []string {
	var l []string
	for ; s != ""; s = s[64:] {
		l = append(l, s[:64])
	}
	return l
}

// from is the place of a half's first byte, on a disk of so many sectors, worked out by hand for those that the tests take.
func from(sectors, half int) int {
	second := map[int]int{8: 5, 9: 5, 10: 6, 11: 6, 12: 7, 16: 9, 17: 9, 40: 21, 100: 51, 511: 256, 512: 257}
	if half == 0 {
		return 64 * 2
	}
	return 64 * second[sectors]
}

// rooms are how many bytes each half has.
func rooms(sectors int) int { return from(sectors, 1) - from(sectors, 0) }

// with is a disk of noise that has those records, sealed so often: the journal of it, worked out by hand.
func with(sectors, half, seals int, records ...string) api.Journal {
	s := framed(records...)
	d := made(sectors, over{64 * (seals % 2), headed(byte(half), uint64(seals), uint32(len(s)))}, over{from(sectors, half), s})
	return api.Journal{Disk: d, Seals: seals, Half: half, Used: len(s), Records: records}
}

// waits is a journal in which those records wait.
func waits(j api.Journal, group ...string) api.Journal {
	j.Group = group
	return j
}

// copied is a journal that shares no list with another one.
func copied(j api.Journal) api.Journal {
	j.Disk = api.Disk{Sectors: slices.Clone(j.Disk.Sectors), Writes: slices.Clone(j.Disk.Writes)}
	j.Group, j.Records = slices.Clone(j.Group), slices.Clone(j.Records)
	return j
}

func sameDisk(a, b api.Disk) bool {
	return slices.Equal(a.Sectors, b.Sectors) && slices.Equal(a.Writes, b.Writes)
}

func same(a, b api.Journal) bool {
	return sameDisk(a.Disk, b.Disk) && a.Seals == b.Seals && a.Half == b.Half && a.Used == b.Used &&
		slices.Equal(a.Group, b.Group) && slices.Equal(a.Records, b.Records)
}

func isNothing(j api.Journal) bool {
	return len(j.Disk.Sectors)+len(j.Disk.Writes)+len(j.Group)+len(j.Records) == 0 && j.Seals == 0 && j.Half == 0 && j.Used == 0
}

func isNoDisk(d api.Disk) bool { return len(d.Sectors) == 0 && len(d.Writes) == 0 }

func must(t *testing.T, j api.Journal, e api.Errno) api.Journal {
	t.Helper()
	if e != api.OK {
		t.Fatalf("refused: %d", e)
	}
	return j
}

func format(t *testing.T, sectors int) api.Journal {
	t.Helper()
	j, e := journal.Format(sectors)
	return must(t, j, e)
}

func open(t *testing.T, d api.Disk) api.Journal {
	t.Helper()
	j, e := journal.Open(d)
	return must(t, j, e)
}

func appended(t *testing.T, j api.Journal, group ...string) api.Journal {
	t.Helper()
	for _, data := range group {
		next, e := journal.Append(j, data)
		j = must(t, next, e)
	}
	return j
}

func commit(t *testing.T, j api.Journal) api.Journal {
	t.Helper()
	j, e := journal.Commit(j)
	return must(t, j, e)
}

func compact(t *testing.T, j api.Journal, data string) api.Journal {
	t.Helper()
	j, e := journal.Compact(j, data)
	return must(t, j, e)
}

// laid are the writes ahead of a seal's first flush, if bytes are laid into a half from a place on: worked out over the half as a whole.
func laid(j api.Journal, half, at int, bytes string) []api.Write {
	n := len(j.Disk.Sectors)
	begin, end := from(n, half), from(n, half)+rooms(n)
	all := []byte(strings.Join(j.Disk.Sectors, ""))
	copy(all[begin+at:], bytes)
	var l []api.Write
	for i := begin; i < end; i += 64 {
		if max(i, begin+at) < min(i+64, begin+at+len(bytes)) {
			l = append(l, api.Write{At: i / 64, Data: string(all[i : i+64])})
		}
	}
	return append(l, api.Write{At: (j.Seals + 1) % 2, Data: zeros})
}

// next is the head's write of a seal.
func next(j api.Journal, half, used int) api.Write {
	return api.Write{At: (j.Seals + 1) % 2, Data: headed(byte(half), uint64(j.Seals)+1, uint32(used))}
}

// written is a disk behind writes that are safe.
func written(d api.Disk, writes ...api.Write) api.Disk {
	l := slices.Clone(d.Sectors)
	for _, w := range writes {
		l[w.At] = w.Data
	}
	return api.Disk{Sectors: l}
}

// committed is the journal that Commit must answer.
func committed(j api.Journal) api.Journal {
	s := framed(j.Group...)
	writes := append(laid(j, j.Half, j.Used, s), next(j, j.Half, j.Used+len(s)))
	return api.Journal{Disk: written(j.Disk, writes...), Seals: j.Seals + 1, Half: j.Half, Used: j.Used + len(s), Records: slices.Concat(j.Records, j.Group)}
}

// compacted is the journal that Compact must answer.
func compacted(j api.Journal, data string) api.Journal {
	s := framed(data)
	writes := append(laid(j, 1-j.Half, 0, s), next(j, 1-j.Half, len(s)))
	return api.Journal{Disk: written(j.Disk, writes...), Seals: j.Seals + 1, Half: 1 - j.Half, Used: len(s), Records: []string{data}}
}

// done is the journal that Crash's call would have come to, had it not crashed.
func done(j api.Journal, whole string) api.Journal {
	if whole == "" {
		return committed(j)
	}
	return compacted(j, whole)
}

// crashed is the disk that Crash must answer.
func crashed(j api.Journal, whole string, late bool, kept uint64, torn int) api.Disk {
	half, at, s := j.Half, j.Used, framed(j.Group...)
	if whole != "" {
		half, at, s = 1-j.Half, 0, framed(whole)
	}
	d := api.Disk{Sectors: j.Disk.Sectors, Writes: laid(j, half, at, s)}
	if late {
		d = written(d, d.Writes...)
		d.Writes = []api.Write{next(j, half, at+len(s))}
	}
	d, _ = disk.Crash(d, kept, torn)
	return d
}

// filled are records of that many bytes at the most, whose frames are so long in all.
func filled(bytes, long int) []string {
	var l []string
	for n := long; bytes > 0; {
		// An empty record has five bytes: fewer can't be filled.
		if left := bytes - len(framed(noise(0, n))); left == 0 || left >= 5 {
			l = append(l, noise(uint32(len(l)), n))
			bytes = left
		} else {
			n--
		}
	}
	return l
}

// right are journals that may be.
func right() map[string]api.Journal {
	old := with(12, 0, 7, "a", "bc")
	old.Disk.Sectors[0] = headed(1, 6, 300)
	cut := with(12, 1, 8, "a", "bc")
	cut.Disk.Sectors[1] = headed(0, 7, 2)
	return map[string]api.Journal{
		"no records":                      with(8, 0, 1),
		"no records, in half 1":           with(8, 1, 2),
		"empty lists":                     {Disk: api.Disk{Sectors: with(9, 0, 1).Disk.Sectors, Writes: []api.Write{}}, Seals: 1, Group: []string{}, Records: []string{}},
		"some records":                    with(10, 0, 3, "a", "", "bc"),
		"some records, in half 1":         with(10, 1, 4, "a", "", "bc"),
		"some wait":                       waits(with(11, 0, 5, "a", "", "bc"), "d", "", "e"),
		"an older head":                   waits(old, "d"),
		"an older head, of a torn half":   waits(cut, "d"),
		"records that fill a half":        with(8, 1, 9, filled(192, 20)...),
		"records that fill a great half":  waits(with(512, 1, 9, filled(16320, 900)...)),
		"many empty records":              with(512, 0, 1, make([]string, 3264)...),
		"a record that is longest":        with(512, 0, 1, noise(4, 4096)),
		"one waits that is longest":       waits(with(100, 0, 1, "a"), noise(5, 1000)),
		"as many wait as may":             waits(with(17, 1, 2, "a"), slices.Repeat([]string{"", "x"}, 8)...),
		"as many bytes wait as may":       waits(with(100, 0, 3, noise(6, 130)), filled(3000, 1000)...),
		"as many and as many bytes":       waits(with(511, 0, 3), filled(3000, 183)...),
		"what waits fills a half":         waits(with(8, 0, 3, "a", noise(7, 40)), filled(192-6-45, 20)...),
		"what waits fills an empty half":  waits(with(9, 1, 4), filled(192, 186)...),
		"what waits fills a great half":   waits(with(512, 1, 4, filled(13320, 800)...), filled(3000, 700)...),
		"sealed as often as may be":       waits(with(12, 0, most, "a"), "b"),
		"sealed once less":                waits(with(12, 1, most-1, "a"), "b"),
		"a record of the other one's kin": waits(with(12, 1, 3, headed(1, 3, 5), framed("a"), zeros), headed(0, 4, 5), framed("a")),
	}
}

// broken are disks that have no journal, each by one thing alone, and the error that Open tells.
func broken() map[string]struct {
	d api.Disk
	e api.Errno
} {
	type one = struct {
		d api.Disk
		e api.Errno
	}
	may := with(12, 0, 3, "a", "bc").Disk
	sector := func(at int, s string) api.Disk { return written(may, api.Write{At: at, Data: s}) }
	head := func(s string) api.Disk { return sector(1, s) }
	both := func(first, second string) api.Disk {
		return written(may, api.Write{At: 0, Data: first}, api.Write{At: 1, Data: second})
	}
	pending := func(at int, data string) api.Disk {
		return api.Disk{Sectors: may.Sectors, Writes: []api.Write{{At: at, Data: data}}}
	}
	return map[string]one{
		"nothing":                         {api.Disk{}, api.ErrArg},
		"no sectors":                      {api.Disk{Sectors: []string{}}, api.ErrArg},
		"7 sectors":                       {api.Disk{Sectors: with(8, 0, 1).Disk.Sectors[:7]}, api.ErrArg},
		"2 sectors":                       {api.Disk{Sectors: with(8, 0, 1).Disk.Sectors[:2]}, api.ErrArg},
		"1 sector":                        {api.Disk{Sectors: with(8, 0, 2).Disk.Sectors[:1]}, api.ErrArg},
		"513 sectors":                     {api.Disk{Sectors: append(with(512, 0, 1).Disk.Sectors, zeros)}, api.ErrArg},
		"a sector of 63 bytes":            {sector(11, zeros[1:]), api.ErrArg},
		"a head of 65 bytes":              {head(headed(0, 3, 13) + "x"), api.ErrArg},
		"a head of 32 bytes":              {head(headed(0, 3, 13)[:32]), api.ErrArg},
		"a write":                         {pending(5, zeros), api.ErrArg},
		"a write of what is there":        {pending(1, may.Sectors[1]), api.ErrArg},
		"a write that may not be":         {pending(12, zeros), api.ErrArg},
		"7 sectors and no head":           {made(7), api.ErrArg},
		"no head, and a write":            {api.Disk{Sectors: made(12).Sectors, Writes: []api.Write{{At: 1, Data: headed(0, 3, 13)}}}, api.ErrArg},
		"noise":                           {made(12), api.ErrSyntax},
		"zeros":                           {api.Disk{Sectors: slices.Repeat([]string{zeros}, 12)}, api.ErrSyntax},
		"a head elsewhere":                {written(made(12), api.Write{At: 3, Data: headed(0, 3, 13)}, api.Write{At: 2, Data: headed(0, 2, 13)}), api.ErrSyntax},
		"a head at the other one's place": {both(headed(0, 3, 13), headed(0, 4, 13)), api.ErrSyntax},
		"no seals":                        {both(headed(0, 0, 13), zeros), api.ErrSyntax},
		"half 2":                          {head(headed(2, 3, 13)), api.ErrSyntax},
		"half 255":                        {head(headed(255, 3, 13)), api.ErrSyntax},
		"seals beyond the most":           {head(headed(0, most+1, 13)), api.ErrSyntax},
		"seals far beyond the most":       {head(headed(0, 1<<63-1, 13)), api.ErrSyntax},
		"seals of the highest bit":        {head(headed(0, 1<<63+3, 13)), api.ErrSyntax},
		"seals of all bits":               {head(headed(0, 1<<64-1, 13)), api.ErrSyntax},
		"seals of 2^56 and 3":             {head(headed(0, 1<<56+3, 13)), api.ErrSyntax},
		"used beyond a half":              {head(headed(0, 3, 5*64+1)), api.ErrSyntax},
		"used far beyond a half":          {head(headed(0, 3, 1<<24+13)), api.ErrSyntax},
		"used of the highest bit":         {head(headed(0, 3, 1<<31+13)), api.ErrSyntax},
		"used of all bits":                {head(headed(0, 3, 1<<32-1)), api.ErrSyntax},
		"two halves of different heads":   {head(headed(0, 3, 13)[:32] + headed(0, 3, 6)[:32]), api.ErrSyntax},
		"a head's first half alone":       {head(headed(0, 3, 13)[:32] + zeros[:32]), api.ErrSyntax},
		"a head's second half alone":      {head(zeros[:32] + headed(0, 3, 13)[:32]), api.ErrSyntax},
		"used within a record":            {head(headed(0, 3, 12)), api.ErrCheck},
		"used behind the records":         {head(headed(0, 3, 14)), api.ErrCheck},
		"used of all the half":            {head(headed(0, 3, 5*64)), api.ErrCheck},
		"the other half":                  {head(headed(1, 3, 13)), api.ErrCheck},
		"a record changed":                {made(12, over{64, headed(0, 3, 13)}, over{from(12, 0), framed("a") + "\x04bd" + framed("bc")[3:]}), api.ErrCheck},
		"the newer head's records broken": {both(headed(0, 4, 12), headed(0, 3, 13)), api.ErrCheck},
	}
}

// wrong are journals that may not be, each by one thing alone.
func wrong() map[string]api.Journal {
	l := map[string]api.Journal{}
	for name, b := range broken() {
		l["disk: "+name] = api.Journal{Disk: b.d, Seals: 3, Used: 13, Records: []string{"a", "bc"}}
	}
	change := func(name string, do func(*api.Journal)) {
		j := copied(waits(with(12, 0, 3, "a", "bc"), "d", ""))
		do(&j)
		l[name] = j
	}
	change("nothing", func(j *api.Journal) { *j = api.Journal{} })
	change("no disk", func(j *api.Journal) { j.Disk = api.Disk{} })
	change("a seal more", func(j *api.Journal) { j.Seals++ })
	change("two seals less", func(j *api.Journal) { j.Seals -= 2 })
	change("seals below 0", func(j *api.Journal) { j.Seals = -3 })
	change("the most seals", func(j *api.Journal) { j.Seals = most })
	change("the other half", func(j *api.Journal) { j.Half = 1 })
	change("half 2", func(j *api.Journal) { j.Half = 2 })
	change("half -1", func(j *api.Journal) { j.Half = -1 })
	change("used of one more", func(j *api.Journal) { j.Used++ })
	change("used of one less", func(j *api.Journal) { j.Used-- })
	change("used of a record less", func(j *api.Journal) { j.Used = 6 })
	change("used below 0", func(j *api.Journal) { j.Used = -13 })
	change("a record less", func(j *api.Journal) { j.Records = j.Records[:1] })
	change("no records", func(j *api.Journal) { j.Records = nil })
	change("a record more", func(j *api.Journal) { j.Records = append(j.Records, "") })
	change("another record", func(j *api.Journal) { j.Records[1] = "bd" })
	change("records turned about", func(j *api.Journal) { slices.Reverse(j.Records) })
	change("records of the group", func(j *api.Journal) { j.Records = append(j.Records, j.Group...) })
	change("a write", func(j *api.Journal) { j.Disk.Writes = []api.Write{{At: 9, Data: zeros}} })
	change("a write of what is there", func(j *api.Journal) { j.Disk.Writes = []api.Write{{At: 1, Data: j.Disk.Sectors[1]}} })
	change("another half's noise for records", func(j *api.Journal) { j.Disk.Sectors[2] = noise(77, 64) })
	change("one waits that is too long for the half", func(j *api.Journal) { j.Group = []string{noise(1, 400)} })
	l["one waits that is too long"] = waits(with(100, 0, 1, "a"), noise(5, 1001))
	l["the last one that waits is too long"] = waits(with(100, 0, 1, "a"), "", "", noise(5, 1001))
	l["one too many waits"] = waits(with(17, 1, 2, "a"), make([]string, 17)...)
	l["far too many wait"] = waits(with(17, 1, 2, "a"), make([]string, 100000)...)
	l["a byte too many waits"] = waits(with(100, 0, 3), filled(3001, 1000)...)
	l["a byte more waits than the half has"] = waits(with(8, 0, 3, "a", noise(7, 40)), filled(193-6-45, 20)...)
	l["a byte more waits than an empty half has"] = waits(with(9, 1, 4), filled(193, 187)...)
	l["an empty record waits at a full half"] = waits(with(8, 1, 9, filled(192, 20)...), "")
	l["all of it waits, and is sealed"] = waits(with(8, 0, 3, filled(100, 20)...), filled(100, 20)...)
	return l
}
