package pack_test

import (
	"math"
	"math/big"
	"strings"
	"testing"

	"tarry/api"
	"tarry/pack"
)

const most = 1 << 60

// numbers are ordinary ones, the edges, and some that may not be.
func numbers() []int {
	l := []int{0, 3, -3, 5, -7, 10, 1000, -1000, 1<<29 - 1, 1 << 30, 1<<30 + 1, 1<<31 + 5, -1<<31 - 5,
		1<<59 + 1, -1<<59 - 1, most/3 + 1, most / 3, most / 7, most/7 + 1, most - 1, 1 - most,
		most, -most, most + 1, -most - 1, 1 << 61, -1 << 61, 1 << 62, -1 << 62, math.MaxInt, math.MinInt, math.MinInt + 1}
	for i := range 61 {
		l = append(l, 1<<i, -1<<i, 1<<i-1, 1-1<<i)
	}
	return l
}

func mayBe(n int) bool { return n >= -most && n <= most }

// wanted is what a sum or a product must answer, worked out without a bound.
func wanted(a, b int, do func(z, x, y *big.Int) *big.Int) (int, api.Errno) {
	if !mayBe(a) || !mayBe(b) {
		return 0, api.ErrArg
	}
	z := do(new(big.Int), big.NewInt(int64(a)), big.NewInt(int64(b)))
	if z.CmpAbs(big.NewInt(most)) > 0 {
		return 0, api.ErrOver
	}
	return int(z.Int64()), api.OK
}

// P1.1, and of P1.4 that sums may be turned about.
func TestAddAndTimes(t *testing.T) {
	for _, a := range numbers() {
		for _, b := range numbers() {
			want, fault := wanted(a, b, (*big.Int).Add)
			if n, e := pack.Add(a, b); n != want || e != fault {
				t.Fatalf("Add(%d, %d) = %d, %d; want %d, %d", a, b, n, e, want, fault)
			}
			want, fault = wanted(a, b, (*big.Int).Mul)
			if n, e := pack.Times(a, b); n != want || e != fault {
				t.Fatalf("Times(%d, %d) = %d, %d; want %d, %d", a, b, n, e, want, fault)
			}
		}
	}
}

// P1.1: the errors, written out.
func TestAddAndTimesAtTheEdges(t *testing.T) {
	for _, c := range []struct {
		name string
		do   func(a, b int) (int, api.Errno)
		a, b int
		want int
		e    api.Errno
	}{
		{"Add", pack.Add, most - 1, 1, most, api.OK},
		{"Add", pack.Add, most, 1, 0, api.ErrOver},
		{"Add", pack.Add, -most, -1, 0, api.ErrOver},
		{"Add", pack.Add, -most, most, 0, api.OK},
		{"Add", pack.Add, most + 1, -1, 0, api.ErrArg},
		{"Add", pack.Add, -1, most + 1, 0, api.ErrArg},
		{"Add", pack.Add, most + 1, most, 0, api.ErrArg},
		{"Times", pack.Times, 1 << 30, 1 << 30, most, api.OK},
		{"Times", pack.Times, -1 << 30, 1 << 30, -most, api.OK},
		{"Times", pack.Times, -most, -1, most, api.OK},
		{"Times", pack.Times, 1<<30 + 1, 1 << 30, 0, api.ErrOver},
		{"Times", pack.Times, 1 << 32, 1 << 32, 0, api.ErrOver},
		{"Times", pack.Times, -most, most, 0, api.ErrOver},
		{"Times", pack.Times, most + 1, 0, 0, api.ErrArg},
		{"Times", pack.Times, 0, math.MinInt, 0, api.ErrArg},
	} {
		if n, e := c.do(c.a, c.b); n != c.want || e != c.e {
			t.Errorf("%s(%d, %d) = %d, %d; want %d, %d", c.name, c.a, c.b, n, e, c.want, c.e)
		}
	}
}

// P1.2: what numbers' bytes are.
func TestNumber(t *testing.T) {
	for n, want := range map[int]string{
		0: "\x00", -1: "\x01", 1: "\x02", -2: "\x03", 63: "\x7e", -64: "\x7f",
		64: "\x80\x01", -65: "\x81\x01", 8191: "\xfe\x7f", -8192: "\xff\x7f", 8192: "\x80\x80\x01",
		most:     "\x80\x80\x80\x80\x80\x80\x80\x80\x20",
		-most:    "\xff\xff\xff\xff\xff\xff\xff\xff\x1f",
		most - 1: "\xfe\xff\xff\xff\xff\xff\xff\xff\x1f",
	} {
		if s, e := pack.Number(n); s != want || e != api.OK {
			t.Errorf("Number(%d) = %q, %d; want %q", n, s, e, want)
		}
	}
	for _, n := range []int{most + 1, -most - 1, math.MaxInt, math.MinInt} {
		if s, e := pack.Number(n); s != "" || e != api.ErrArg {
			t.Errorf("Number(%d) = %q, %d; want ErrArg", n, s, e)
		}
	}
}

// P1.2: what is read, and which error comes first.
func TestReadNumber(t *testing.T) {
	high := func(n int) string { return strings.Repeat("\x80", n) }
	for _, c := range []struct {
		s    string
		n    int
		rest string
		e    api.Errno
	}{
		{"\x00", 0, "", api.OK},
		{"\x00\x00", 0, "\x00", api.OK},
		{"\x01\x80", -1, "\x80", api.OK},
		{"\x80\x01tail", 64, "tail", api.OK},
		{"\xff\x7f\xff", -8192, "\xff", api.OK},
		{high(8) + "\x20", most, "", api.OK},
		{high(8) + "\x20" + high(20), most, high(20), api.OK},
		{strings.Repeat("\xff", 8) + "\x1f", -most, "", api.OK},
		{"", 0, "", api.ErrShort},
		{high(1), 0, "", api.ErrShort},
		{high(8), 0, "", api.ErrShort},
		{high(9), 0, "", api.ErrLong},
		{high(9) + "\x01", 0, "", api.ErrLong},
		{high(9) + "\x00", 0, "", api.ErrLong},
		{high(40), 0, "", api.ErrLong},
		{"\x80\x00", 0, "", api.ErrSyntax},
		{"\xff\x00", 0, "", api.ErrSyntax},
		{high(8) + "\x00", 0, "", api.ErrSyntax},
		{"\x81" + high(7) + "\x20", 0, "", api.ErrSyntax}, // -2^60 - 1
		{"\x82" + high(7) + "\x20", 0, "", api.ErrSyntax}, // 2^60 + 1
		{high(8) + "\x21", 0, "", api.ErrSyntax},
		{strings.Repeat("\xff", 8) + "\x7f", 0, "", api.ErrSyntax},
		{strings.Repeat("\xff", 8) + "\x7fmore", 0, "", api.ErrSyntax},
	} {
		if n, rest, e := pack.ReadNumber(c.s); n != c.n || rest != c.rest || e != c.e {
			t.Errorf("ReadNumber(%q) = %d, %q, %d; want %d, %q, %d", c.s, n, rest, e, c.n, c.rest, c.e)
		}
	}
}

// P1.4: what is written is read, whatever is behind it.
func TestNumbersAreReadAsWritten(t *testing.T) {
	for _, n := range numbers() {
		s, e := pack.Number(n)
		if !mayBe(n) {
			if s != "" || e != api.ErrArg {
				t.Fatalf("Number(%d) = %q, %d; want ErrArg", n, s, e)
			}
			continue
		}
		for _, tail := range []string{"", "\x00", "\x7f", "\x80", "\xff\xff\xff\xff\xff\xff\xff\xff\xff\xff", s} {
			m, rest, f := pack.ReadNumber(s + tail)
			if e != api.OK || m != n || rest != tail || f != api.OK {
				t.Fatalf("%d: written %q, %d; with %q behind it read %d, %q, %d", n, s, e, tail, m, rest, f)
			}
		}
	}
}

// P1.4: what is read, written, is the same bytes; and P1 and R2 at every short text of some telling bytes.
func TestNumbersAreWrittenAsRead(t *testing.T) {
	for _, head := range []string{"", strings.Repeat("\x80", 6), strings.Repeat("\xff", 7)} {
		for _, tail := range texts("\x00\x01\x1f\x20\x7f\x80\x81\xff", 4) {
			s := head + tail
			n, rest, e := pack.ReadNumber(s)
			if e != api.OK {
				if n != 0 || rest != "" || e != api.ErrShort && e != api.ErrLong && e != api.ErrSyntax {
					t.Fatalf("ReadNumber(%q) = %d, %q, %d", s, n, rest, e)
				}
				continue
			}
			if again, f := pack.Number(n); again+rest != s || f != api.OK {
				t.Fatalf("ReadNumber(%q) = %d, %q; written again %q, %d", s, n, rest, again, f)
			}
		}
	}
}

// texts are all texts of these bytes, of up to so many of them.
func texts(alphabet string, long int) []string {
	l := []string{""}
	for from := 0; long > 0; long-- {
		end := len(l)
		for _, s := range l[from:end] {
			for i := range len(alphabet) {
				l = append(l, s+alphabet[i:i+1])
			}
		}
		from = end
	}
	return l
}
