package frame_test

import (
	"encoding/binary"
	"hash/crc32"
	"slices"
	"strings"
	"sync"
	"testing"

	"tarry/api"
	"tarry/frame"
)

// checkOf is a record's check, by the library's own sum.
func checkOf(data string) string {
	sum := crc32.Checksum([]byte(data), crc32.MakeTable(crc32.Castagnoli))
	return string(binary.LittleEndian.AppendUint32(nil, sum))
}

// number is a number's bytes, by the library: it has the same way of writing them.
func number(n int) string { return string(binary.AppendVarint(nil, int64(n))) }

// framed are bytes as a record's would be, however many there are.
func framed(data string) string { return number(len(data)) + data + checkOf(data) }

// noise is so many bytes, of every kind, the same at each run.
func noise(seed uint32, long int) string {
	b := make([]byte, long)
	for i := range b {
		seed = seed*1664525 + 1013904223
		b[i] = byte(seed >> 24)
	}
	return string(b)
}

// records are ordinary ones, the edges, and some whose bytes look like a record's.
func records() []string {
	return []string{"", "a", "bc", "", "\x00", "\x00\x00\x00\x00", "\x00\x00\x00\x00\x00", "\xff\xff\xff\xff\xff\xff\xff\xff\xff",
		"\x80\x00", "é\n\x80", framed("a"), framed(""), framed("a") + "\x02", noise(1, 62), noise(2, 63), noise(3, 64), noise(4, 65),
		noise(5, 1000), noise(6, 4095), noise(7, 4096), strings.Repeat("\x00", 4096), "the last one"}
}

// joined are records' bytes, one behind the other, and where each one's end.
func joined(t *testing.T, l []string) (string, []int) {
	t.Helper()
	s, ends := "", []int(nil)
	for _, data := range l {
		f, e := frame.Frame(data)
		if e != api.OK {
			t.Fatalf("Frame of %d bytes tells %d", len(data), e)
		}
		s += f
		ends = append(ends, len(s))
	}
	return s, ends
}

// isScanned holds Scan and All against the records that a text must have, and how many bytes these have.
func isScanned(t *testing.T, s string, want []string, bytes int) {
	t.Helper()
	l, n := frame.Scan(s)
	if !slices.Equal(l, want) || n != bytes {
		t.Fatalf("Scan(%.60q) = %.60q, %d; want %.60q, %d", s, l, n, want, bytes)
	}
	l, e := frame.All(s)
	if bytes < len(s) {
		if len(l) != 0 || e != api.ErrCheck {
			t.Fatalf("All(%.60q) = %d records, %d; want none and ErrCheck", s, len(l), e)
		}
	} else if !slices.Equal(l, want) || e != api.OK {
		t.Fatalf("All(%.60q) = %.60q, %d; want %.60q", s, l, e, want)
	}
}

// P4.1: what a record's bytes are, written out.
func TestFrame(t *testing.T) {
	for data, want := range map[string]string{
		"":                        "\x00\x00\x00\x00\x00",
		"123456789":               "\x12123456789\x83\x92\x06\xe3", // 3808858755
		"a":                       "\x02a\x30\x43\xd0\xc1",
		strings.Repeat("x", 63):   "\x7e" + strings.Repeat("x", 63) + checkOf(strings.Repeat("x", 63)),
		strings.Repeat("x", 64):   "\x80\x01" + strings.Repeat("x", 64) + checkOf(strings.Repeat("x", 64)),
		strings.Repeat("é", 32):   "\x80\x01" + strings.Repeat("é", 32) + checkOf(strings.Repeat("é", 32)),
		strings.Repeat("\x00", 4): "\x08\x00\x00\x00\x00" + checkOf("\x00\x00\x00\x00"),
		noise(8, 4096):            "\x80\x40" + noise(8, 4096) + checkOf(noise(8, 4096)),
	} {
		if s, e := frame.Frame(data); s != want || e != api.OK {
			t.Errorf("Frame(%.40q) = %.60q, %d; want %.60q", data, s, e, want)
		}
	}
	for _, data := range records() {
		if s, e := frame.Frame(data); s != framed(data) || e != api.OK {
			t.Errorf("Frame(%.40q) = %.60q, %d", data, s, e)
		}
	}
}

// P4.1: a record that is too long, and, of R2, nothing beside that.
func TestFrameTooLong(t *testing.T) {
	for _, long := range []int{4097, 4098, 8192, 1 << 20} {
		if s, e := frame.Frame(strings.Repeat("x", long)); s != "" || e != api.ErrLong {
			t.Errorf("Frame of %d bytes: %d bytes, %d; want ErrLong", long, len(s), e)
		}
	}
	// Bytes are counted, not runes.
	if s, e := frame.Frame(strings.Repeat("é", 2049)); s != "" || e != api.ErrLong {
		t.Errorf("Frame of 2049 runes of two bytes: %d bytes, %d; want ErrLong", len(s), e)
	}
}

// P4.1: what is scanned, and what is not, written out; the chapter's example first.
func TestScan(t *testing.T) {
	a, b, none := framed("a"), framed("b"), framed("")
	long, tooLong := noise(9, 4096), noise(9, 4097)
	for _, c := range []struct {
		s     string
		l     []string
		bytes int
	}{
		{a + "\x02", []string{"a"}, 6},
		{"", nil, 0},
		{a, []string{"a"}, 6},
		{none, []string{""}, 5},
		{a + b + none + a, []string{"a", "b", "", "a"}, 23},
		{strings.Repeat("\x00", 64), make([]string, 12), 60},
		{framed(long) + a, []string{long, "a"}, 4108},

		// no number
		{"\x80", nil, 0},
		{a + "\x80", []string{"a"}, 6},
		{a + strings.Repeat("\xff", 8), []string{"a"}, 6},
		{a + strings.Repeat("\xff", 9) + a, []string{"a"}, 6},
		{a + strings.Repeat("\xff", 8) + "\x7f" + a, []string{"a"}, 6},
		{"\x80\x00" + "\x00\x00\x00\x00", nil, 0}, // 0, not in as few digits as there are
		{"\x82\x00" + "a" + checkOf("a"), nil, 0}, // 1, so

		// a number that is not 0 to 4096
		{framed(tooLong), nil, 0},
		{a + framed(tooLong) + b, []string{"a"}, 6},
		{"\x01" + "\x00\x00\x00\x00", nil, 0},     // -1
		{"\x03" + "a" + checkOf("a"), nil, 0},     // -2
		{"\x07" + "\x00\x00\x00\x00\x00", nil, 0}, // -4
		{"\x09" + "\x00\x00\x00\x00\x00", nil, 0}, // -5
		{number(-4096) + long + checkOf(long), nil, 0},
		{number(-1<<60) + "\x00\x00\x00\x00", nil, 0},
		{number(1<<60) + "\x00\x00\x00\x00", nil, 0},
		{number(1<<60-4) + "\x00\x00\x00\x00", nil, 0},
		{number(1<<32) + "\x00\x00\x00\x00", nil, 0},

		// too few bytes, or of the check too few
		{"\x02", nil, 0},
		{"\x02a", nil, 0},
		{a[:3], nil, 0},
		{a[:5], nil, 0},
		{"\x00", nil, 0},
		{"\x00\x00\x00\x00", nil, 0},
		{framed(long)[:4101], nil, 0},
		{a + b[:5], []string{"a"}, 6},

		// another check
		{"\x02" + "a" + checkOf("b"), nil, 0},
		{"\x02" + "a" + "\xc1\xd0\x43\x30", nil, 0}, // its bytes turned about
		{"\x02" + "a" + checkOf("\x02a"), nil, 0},
		{"\x00" + "\x00\x00\x00\x01", nil, 0},
		{"\x00" + "\x01\x00\x00\x00", nil, 0},
		{"\x00" + "\xff\xff\xff\xff", nil, 0},

		// nothing behind what is not whole is scanned, nor anything within
		{"x" + a, nil, 0},
		{a + "x" + b, []string{"a"}, 6},
		{a + "\x02" + "x" + checkOf("y") + b, []string{"a"}, 6},
		{framed(a + b), []string{a + b}, 17},
	} {
		isScanned(t, c.s, c.l, c.bytes)
	}
}

// scanned is what a text has, worked out by the library's numbers and sums.
func scanned(s string) ([]string, int) {
	var l []string
	at := 0
	for {
		long, digits := binary.Varint([]byte(s[at:]))
		if digits <= 0 || long < 0 || long > 4096 || number(int(long)) != s[at:at+digits] {
			return l, at
		}
		from, to := at+digits, at+digits+int(long)
		if to+4 > len(s) || checkOf(s[from:to]) != s[to:to+4] {
			return l, at
		}
		l = append(l, s[from:to])
		at = to + 4
	}
}

// P4.1 and P1: every text of up to four of some telling pieces, whole records among them.
func TestScanEveryText(t *testing.T) {
	pieces := []string{"\x00", "\x01", "\x02", "\x80", "\xff", "a", "\x00\x00\x00\x00", checkOf("a"), framed("a"), framed(""), framed("\x00\x02a"), framed("a")[:4]}
	texts := []string{""}
	from := 0
	for range 4 {
		end := len(texts)
		for _, s := range texts[from:end] {
			for _, p := range pieces {
				texts = append(texts, s+p)
			}
		}
		from = end
	}
	for _, s := range texts {
		l, n := scanned(s)
		isScanned(t, s, l, n)
	}
}

// P1: texts of any bytes, long ones too, of which most have no record.
func TestScanNoise(t *testing.T) {
	for seed := range uint32(2000) {
		s := noise(seed, int(seed)%300)
		l, n := scanned(s)
		isScanned(t, s, l, n)
	}
	many := strings.Repeat("\x00", 50003)
	isScanned(t, many, make([]string, 10000), 50000)
	isScanned(t, strings.Repeat("\xff", 1<<16), nil, 0)
	isScanned(t, strings.Repeat("\x80\x40", 1<<15), nil, 0)
}

// P4.2: records one behind the other are scanned as they were, whatever is in them.
func TestScannedAsWritten(t *testing.T) {
	l := records()
	for from := range l {
		for to := from; to <= len(l); to++ {
			s, _ := joined(t, l[from:to])
			isScanned(t, s, l[from:to], len(s))
		}
	}
	for long := range 4097 {
		data := noise(uint32(long), long)
		s, _ := joined(t, []string{data})
		isScanned(t, s, []string{data}, len(s))
	}
}

// P4.2: of a beginning of them a beginning is scanned: those whose bytes are all there.
func TestOfABeginningABeginning(t *testing.T) {
	l := []string{"", "a", "\x00\x00\x00\x00\x00", framed("a"), noise(1, 63), noise(2, 64), "", "", noise(3, 200), "b"}
	s, ends := joined(t, l)
	for cut := range len(s) + 1 {
		there, bytes := 0, 0
		for there < len(ends) && ends[there] <= cut {
			bytes = ends[there]
			there++
		}
		isScanned(t, s[:cut], l[:there], bytes)
	}
}

// changed is a text with those bits turned, from a bit on: byte by byte, in each from the lowest on.
func changed(s string, at int, bits uint32) string {
	b := []byte(s)
	for i := range 32 {
		if bits>>i&1 == 1 {
			b[(at+i)/8] ^= 1 << ((at + i) % 8)
		}
	}
	return string(b)
}

// P4.2: a change within 32 bits of a record ends the scan ahead of it, though all behind it is whole; so does one of its check, or of both.
func TestAChangeEndsTheScan(t *testing.T) {
	for _, data := range []string{"abcd", "\x00\x00\x00\x00", framed("a"), noise(1, 63), noise(2, 64), noise(3, 150)} {
		l := []string{"first", "", data, "behind"}
		s, ends := joined(t, l)
		from := ends[1] + len(number(len(data)))
		for at := 8 * from; at+32 <= 8*ends[2]; at++ {
			for i := range 32 {
				isScanned(t, changed(s, at, 1<<i), l[:2], ends[1])
			}
			seed := uint32(at)
			for range 8 {
				seed = seed*1664525 + 1013904223
				isScanned(t, changed(s, at, seed|1), l[:2], ends[1])
			}
			isScanned(t, changed(s, at, 1<<32-1), l[:2], ends[1])
		}
	}
	// Of records of fewer than 32 bits, every change there is.
	for _, data := range []string{"a", "\x00", "ab"} {
		s, ends := joined(t, []string{data, "behind"})
		for bits := uint32(1); bits < 1<<(8*len(data)); bits++ {
			isScanned(t, changed(s, 8, bits), nil, 0)
		}
		isScanned(t, s, []string{data, "behind"}, ends[1])
	}
}

// R1: the same arguments have the same answer, whoever else calls; and who changes a list that was answered changes nothing else.
func TestNothingIsKept(t *testing.T) {
	s := framed("a") + framed("bc")
	var wait sync.WaitGroup
	for range 8 {
		wait.Go(func() {
			for range 100 {
				frame.Frame(strings.Repeat("x", 4097))
				frame.Scan(s[:8])
				frame.All(s + "x")
				scan, n := frame.Scan(s)
				all, e := frame.All(s)
				if !slices.Equal(scan, []string{"a", "bc"}) || n != len(s) || !slices.Equal(all, scan) || e != api.OK {
					t.Errorf("%q, %d; %q, %d", scan, n, all, e)
				}
				scan[0], all[1] = "changed", "changed"
			}
		})
	}
	wait.Wait()
}
