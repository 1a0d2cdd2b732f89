package pack_test

import (
	"slices"
	"strings"
	"testing"

	"tarry/api"
	"tarry/pack"
)

var (
	longText    = strings.Repeat("x", 4096)
	tooLongText = strings.Repeat("x", 4097)
)

func written(t *testing.T, l ...string) string {
	t.Helper()
	s, e := pack.Row(l...)
	if e != api.OK {
		t.Fatalf("Row of %d texts tells %d", len(l), e)
	}
	return s
}

// P1.3: what a row's bytes are.
func TestRow(t *testing.T) {
	for _, c := range []struct {
		l    []string
		want string
	}{
		{nil, "\x00"},
		{[]string{}, "\x00"},
		{[]string{""}, "\x02\x00"},
		{[]string{"a"}, "\x02\x02a"},
		{[]string{"a", "", "bc"}, "\x06\x02a\x00\x04bc"},
		{[]string{"bc", "a"}, "\x04\x04bc\x02a"},
		{[]string{strings.Repeat("y", 64)}, "\x02\x80\x01" + strings.Repeat("y", 64)},
		{[]string{longText}, "\x02\x80\x40" + longText},
		{make([]string, 64), "\x80\x01" + strings.Repeat("\x00", 64)},
		{make([]string, 256), "\x80\x04" + strings.Repeat("\x00", 256)},
	} {
		if s := written(t, c.l...); s != c.want {
			t.Errorf("Row(%q) = %q; want %q", c.l, s, c.want)
		}
	}
}

// P1.3: rows that are too long, and, of R2, nothing beside that.
func TestRowTooLong(t *testing.T) {
	for name, l := range map[string][]string{
		"257 texts":             make([]string, 257),
		"many texts":            make([]string, 100000),
		"a text of 4097":        {tooLongText},
		"the last one of 4097":  {"a", "b", tooLongText},
		"the 256th one of 4097": append(make([]string, 255), tooLongText),
		"both":                  append(make([]string, 256), tooLongText),
	} {
		if s, e := pack.Row(l...); s != "" || e != api.ErrLong {
			t.Errorf("%s: %d bytes, %d; want ErrLong", name, len(s), e)
		}
	}
}

// P1.3: what is read, and which error comes first.
func TestReadRow(t *testing.T) {
	for _, c := range []struct {
		s string
		l []string
		e api.Errno
	}{
		{"\x00", nil, api.OK},
		{"\x02\x00", []string{""}, api.OK},
		{"\x06\x02a\x00\x04bc", []string{"a", "", "bc"}, api.OK},
		{"\x02\x80\x40" + longText, []string{longText}, api.OK},
		{"\x80\x04" + strings.Repeat("\x00", 256), make([]string, 256), api.OK},

		// how many: ReadNumber's error, ErrLong, ErrSyntax
		{"", nil, api.ErrShort},
		{"\x80", nil, api.ErrShort},
		{strings.Repeat("\x80", 9), nil, api.ErrLong},
		{"\x80\x00", nil, api.ErrSyntax},
		{strings.Repeat("\xff", 8) + "\x7f", nil, api.ErrSyntax},
		{"\x82\x04", nil, api.ErrLong}, // 257, of which none is there
		{"\x82\x04" + strings.Repeat("\x00", 257), nil, api.ErrLong},
		{"\x82\x04\x01", nil, api.ErrLong},
		{"\x80\x80\x80\x80\x80\x80\x80\x80\x20", nil, api.ErrLong}, // 2^60
		{"\x01", nil, api.ErrSyntax},
		{"\x01\x02a", nil, api.ErrSyntax},
		{"\xff\xff\xff\xff\xff\xff\xff\xff\x1f", nil, api.ErrSyntax}, // -2^60

		// text by text: ReadNumber's error, ErrLong, ErrSyntax, ErrShort
		{"\x02", nil, api.ErrShort},
		{"\x02\x80", nil, api.ErrShort},
		{"\x02" + strings.Repeat("\x80", 9), nil, api.ErrLong},
		{"\x02\x80\x00", nil, api.ErrSyntax},
		{"\x02\x82\x40" + tooLongText, nil, api.ErrLong},
		{"\x02\x82\x40", nil, api.ErrLong}, // 4097, of which none is there
		{"\x02\x80\x40", nil, api.ErrShort},
		{"\x02\x80\x40" + longText[1:], nil, api.ErrShort},
		{"\x02\x01", nil, api.ErrSyntax},
		{"\x02\x01a", nil, api.ErrSyntax},
		{"\x02\x04a", nil, api.ErrShort},
		{"\x04\x02a", nil, api.ErrShort},
		{"\x04\x04a\x01", nil, api.ErrShort}, // the first text takes the byte 1
		{"\x04\x01\x82\x40", nil, api.ErrSyntax},
		{"\x04\x02a\x01", nil, api.ErrSyntax},
		{"\x04\x02a\x82\x40", nil, api.ErrLong},

		// then what is left
		{"\x00x", nil, api.ErrSyntax},
		{"\x00\x00", nil, api.ErrSyntax},
		{"\x02\x02ab", nil, api.ErrSyntax},
		{"\x80\x04" + strings.Repeat("\x00", 257), nil, api.ErrSyntax},
	} {
		if l, e := pack.ReadRow(c.s); !slices.Equal(l, c.l) || e != c.e {
			t.Errorf("ReadRow(%.40q) = %d texts, %d; want %d, %d", c.s, len(l), e, len(c.l), c.e)
		}
	}
}

// P1.4 and R5: what is written is read, whatever bytes there are; and of no beginning of it is anything read.
func TestRowsAreReadAsWritten(t *testing.T) {
	var every []string
	for b := range 256 {
		every = append(every, string([]byte{byte(b)}))
	}
	full := slices.Repeat([]string{longText}, 256)
	for _, l := range [][]string{
		nil, {""}, {"", "", ""}, {"a", "bc"}, {"\x00", "\x80\x00", "\xff\xfe", "é\n"}, every,
		{strings.Join(every, ""), "\x02\x02a"}, {longText, "", longText},
	} {
		s := written(t, l...)
		if m, e := pack.ReadRow(s); !slices.Equal(m, l) || e != api.OK {
			t.Errorf("%.40q is read as %.40q, %d", l, m, e)
		}
		for i := range len(s) {
			if m, e := pack.ReadRow(s[:i]); len(m) != 0 || e != api.ErrShort {
				t.Fatalf("%.40q: of the first %d bytes is read %.40q, %d", l, i, m, e)
			}
		}
		if m, e := pack.ReadRow(s + "\x00"); len(m) != 0 || e != api.ErrSyntax {
			t.Errorf("%.40q with a byte behind it is read as %.40q, %d", l, m, e)
		}
	}
	if m, e := pack.ReadRow(written(t, full...)); !slices.Equal(m, full) || e != api.OK {
		t.Errorf("a row as great as one may be: %d texts, %d", len(m), e)
	}
}

// P1.4: what is read, written, is the same bytes; and P1 and R2 at every short text of some telling bytes.
func TestRowsAreWrittenAsRead(t *testing.T) {
	for _, s := range texts("\x00\x01\x02\x04\x06\x80\xff", 6) {
		l, e := pack.ReadRow(s)
		if e != api.OK {
			if len(l) != 0 || e != api.ErrShort && e != api.ErrLong && e != api.ErrSyntax {
				t.Fatalf("ReadRow(%q) = %q, %d", s, l, e)
			}
			continue
		}
		if again := written(t, l...); again != s {
			t.Fatalf("ReadRow(%q) = %q; written again %q", s, l, again)
		}
	}
}

// R1: the same arguments have the same answer, whatever was called in between, and by whomever at the same time.
func TestNothingIsKept(t *testing.T) {
	l := []string{"a", "", "bc"}
	want := "\x06\x02a\x00\x04bc"
	done := make(chan bool)
	for range 8 {
		go func() {
			good := true
			for range 200 {
				pack.Row(make([]string, 257)...)
				pack.ReadRow("\x04\x02z")
				s, e := pack.Row(l...)
				m, f := pack.ReadRow(s)
				good = good && s == want && e == api.OK && slices.Equal(m, l) && f == api.OK
			}
			done <- good
		}()
	}
	for range 8 {
		if !<-done {
			t.Error("an answer hangs on more than its arguments")
		}
	}
}

// R4: a list that was handed in stays, behind its end too, and what is answered may be changed without that being seen.
func TestListsStay(t *testing.T) {
	room := []string{"a", "bc", "behind"}
	s := written(t, room[:2]...)
	if !slices.Equal(room, []string{"a", "bc", "behind"}) {
		t.Errorf("the list is %q now", room)
	}
	first, _ := pack.ReadRow(s)
	first[0] = "changed"
	if again, e := pack.ReadRow(s); !slices.Equal(again, []string{"a", "bc"}) || e != api.OK {
		t.Errorf("read again: %q, %d", again, e)
	}
}
