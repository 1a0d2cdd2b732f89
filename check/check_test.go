package check_test

import (
	"hash/crc32"
	"math"
	"strings"
	"sync"
	"testing"

	"tarry/check"
)

// bitwise is the check, worked out bit by bit, without a table.
func bitwise(s string) uint32 {
	c := uint32(math.MaxUint32)
	for i := range len(s) {
		c ^= uint32(s[i])
		for range 8 {
			low := c & 1
			c >>= 1
			if low == 1 {
				c ^= 2197175160
			}
		}
	}
	return c ^ math.MaxUint32
}

// noise is a text of so many bytes, of every kind, the same at each run.
func noise(seed uint32, long int) string {
	b := make([]byte, long)
	for i := range b {
		seed = seed*1664525 + 1013904223
		b[i] = byte(seed >> 24)
	}
	return string(b)
}

// texts are ordinary ones, an empty one, each single byte, those that are no UTF-8, and long ones.
func texts() []string {
	l := []string{"", "a", "abc", "tarry", "123456789", "\x00\x00", "\xff\xff\xff\xff", "a\x00b\xffc",
		"\xc3\x28", "\xe2\x82\xac", "\xed\xa0\x80", strings.Repeat("\x00", 64), strings.Repeat("\xff", 64),
		strings.Repeat("x", 4096), strings.Repeat("long", 5000)}
	for i := range 256 {
		l = append(l, string([]byte{byte(i)}))
	}
	for i := range 130 {
		l = append(l, noise(uint32(i), i))
	}
	return append(l, noise(7, 4095), noise(8, 4096), noise(9, 70000))
}

// P2.1: Of, at bytes whose checks are written out.
func TestOfKnownBytes(t *testing.T) {
	var up, down strings.Builder
	for i := range 32 {
		up.WriteByte(byte(i))
		down.WriteByte(byte(31 - i))
	}
	for s, want := range map[string]uint32{
		"":                         0,
		"123456789":                3808858755,
		"a":                        0xc1d04330,
		strings.Repeat("\x00", 32): 0x8a9136aa,
		strings.Repeat("\xff", 32): 0x62a8ab43,
		up.String():                0x46dd794e,
		down.String():              0x113fdb5c,
	} {
		if c := check.Of(s); c != want {
			t.Errorf("Of(%q) = %d; want %d", s, c, want)
		}
	}
}

// P2.1 and R5: Of, at bytes of every kind.
func TestOf(t *testing.T) {
	castagnoli := crc32.MakeTable(crc32.Castagnoli)
	for _, s := range texts() {
		c := check.Of(s)
		if want := bitwise(s); c != want {
			t.Errorf("Of(%.40q) = %d; want %d", s, c, want)
		}
		if want := crc32.Checksum([]byte(s), castagnoli); c != want {
			t.Errorf("Of(%.40q) = %d; the library's is %d", s, c, want)
		}
	}
}

// P2.1: On, at any check that a beginning may have, and not only at those of a few.
func TestOn(t *testing.T) {
	castagnoli := crc32.MakeTable(crc32.Castagnoli)
	for _, c := range []uint32{0, 1, 128, 255, 256, 1 << 31, 2197175160, 3808858755, math.MaxUint32 - 1, math.MaxUint32} {
		if got := check.On(c, ""); got != c {
			t.Errorf("On(%d, no bytes) = %d", c, got)
		}
		for _, s := range texts() {
			if got, want := check.On(c, s), crc32.Update(c, castagnoli, []byte(s)); got != want {
				t.Errorf("On(%d, %.40q) = %d; want %d", c, s, got, want)
			}
		}
	}
}

// P2.1: Bytes.
func TestBytes(t *testing.T) {
	for c, want := range map[uint32]string{
		0:              "\x00\x00\x00\x00",
		1:              "\x01\x00\x00\x00",
		255:            "\xff\x00\x00\x00",
		256:            "\x00\x01\x00\x00",
		1 << 16:        "\x00\x00\x01\x00",
		1 << 31:        "\x00\x00\x00\x80",
		0x04030201:     "\x01\x02\x03\x04",
		3808858755:     "\x83\x92\x06\xe3",
		0xfffefdfc:     "\xfc\xfd\xfe\xff",
		math.MaxUint32: "\xff\xff\xff\xff",
	} {
		if s := check.Bytes(c); s != want {
			t.Errorf("Bytes(%d) = %q; want %q", c, s, want)
		}
	}
}

// P2.1: Table.
func TestTable(t *testing.T) {
	table := check.Table()
	for i, want := range crc32.MakeTable(crc32.Castagnoli) {
		if table[i] != want {
			t.Errorf("of %d: %d; want %d", i, table[i], want)
		}
	}
	for i, want := range map[int]uint32{0: 0, 1: 0xf26b8303, 2: 0xe13b70f7, 128: 2197175160, 255: 0xad7d5351} {
		if table[i] != want {
			t.Errorf("of %d: %d; want %d", i, table[i], want)
		}
	}
}

// P2.2: wherever bytes are cut, and however often, the rest goes on from their beginning's check.
func TestOnGoesOn(t *testing.T) {
	for _, s := range []string{"", "1", "123456789", "a\x00b\xff\xc3", noise(1, 200)} {
		want := check.Of(s)
		step := uint32(0)
		for i := range len(s) + 1 {
			if got := check.On(check.Of(s[:i]), s[i:]); got != want {
				t.Errorf("%q, cut at %d: %d; want %d", s, i, got, want)
			}
			if step != check.Of(s[:i]) {
				t.Errorf("%q, byte by byte up to %d: %d; want %d", s, i, step, check.Of(s[:i]))
			}
			if i < len(s) {
				step = check.On(step, s[i:i+1])
			}
		}
	}
}

// changed is a text of which the bits of such a pattern are turned, from that bit on.
func changed(s string, at int, pattern uint32) string {
	b := []byte(s)
	for i := range 32 {
		if pattern>>i&1 == 1 {
			b[(at+i)/8] ^= 1 << ((at + i) % 8)
		}
	}
	return string(b)
}

// P2.2: changes within 32 bits that follow one another.
func TestChangesAreSeen(t *testing.T) {
	for _, s := range []string{"1234", "123456789", strings.Repeat("\x00", 8), strings.Repeat("\xff", 12), noise(3, 64)} {
		want := check.Of(s)
		for at := range 8*len(s) - 31 {
			for i := range 32 {
				for j := range 32 {
					seen(t, s, at, 1<<i|1<<j, want)
				}
			}
			pattern := uint32(at) + 1
			for range 100 {
				seen(t, s, at, pattern, want)
				pattern = pattern*1664525 + 1013904223
			}
			seen(t, s, at, math.MaxUint32, want)
		}
	}
}

func seen(t *testing.T, s string, at int, pattern, want uint32) {
	t.Helper()
	if pattern != 0 && check.Of(changed(s, at, pattern)) == want {
		t.Errorf("%q, from bit %d on turned by %b: the check stays", s, at, pattern)
	}
}

// P2.2: all changes within 32 bits at once. A change's bits add up (the test below), so it is enough that no such 32 have a sum of 0.
func TestNoSumOfChangesIsUnseen(t *testing.T) {
	s := noise(4, 64)
	c := check.Of(s)
	for at := range 8*len(s) - 31 {
		var base [32]uint32
		for i := range 32 {
			x := check.Of(changed(s, at, 1<<i)) ^ c
			for bit := 31; bit >= 0; bit-- {
				if x>>bit&1 == 0 {
					continue
				}
				if base[bit] == 0 {
					base[bit] = x
					break
				}
				x ^= base[bit]
			}
			if x == 0 {
				t.Fatalf("from bit %d on: the change of the bit %d behind it is a sum of those ahead of it", at, i)
			}
		}
	}
}

// P2.2: three texts, xored.
func TestThreeTexts(t *testing.T) {
	for long := range 150 {
		a, b, d := noise(uint32(long), long), noise(uint32(long)+1000, long), noise(uint32(long)+2000, long)
		x := make([]byte, long)
		for i := range x {
			x[i] = a[i] ^ b[i] ^ d[i]
		}
		if got, want := check.Of(string(x)), check.Of(a)^check.Of(b)^check.Of(d); got != want {
			t.Errorf("of %d bytes: %d; want %d", long, got, want)
		}
	}
}

// R1 and R4: who changes the table that was answered changes nothing else, and the same arguments have the same answer, whoever else calls.
func TestNothingIsKept(t *testing.T) {
	table := check.Table()
	for i := range table {
		table[i] = 0
	}
	var wait sync.WaitGroup
	for k := range 8 {
		wait.Go(func() {
			for i := range 50 {
				check.On(uint32(i), noise(uint32(k), i))
				if c := check.Of("123456789"); c != 3808858755 {
					t.Errorf("Of = %d", c)
				}
				if table := check.Table(); table[128] != 2197175160 {
					t.Errorf("Table's 128 = %d", table[128])
				}
			}
		})
	}
	wait.Wait()
}
